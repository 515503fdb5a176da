import Derived.Test.YtmnecbniappnaaaGreatQTailLToTo18
import Derived.Deep.CutRange
set_option maxRecDepth 100000
set_option maxHeartbeats 6400000
set_option linter.unusedVariables false
set_option linter.unusedSimpArgs false
namespace Go.Proofs.YtmnecbniappnaaaGreat
open Go.RowKit
def zdH (w : World) (gr gl n : Nat) (R F L G : Nat → Int) (kw gk : Nat) (s : Value) (wx : World) : Prop := ∃ j : Nat,s = .int .i64 (j : Int) ∧ j ≤ n ∧ gk = n - j ∧ Rw17 wx gr n (mx18 R F j) kw ∧ Rw17 wx gl n (mx18 L G j) kw ∧ Touch (zbC gr gl) w wx
def Bx18 (W wx : World) (s1 s2 x y x' y' : Value) : Prop := ∃ bp bt,s1 = .pointer (some ⟨bp,0,none⟩) ∧ s2 = .pointer (some ⟨bt,0,none⟩) ∧ W.heap.size ≤ bp ∧ W.heap.size ≤ bt ∧ bp ≠ bt ∧ Duo wx bp x y ∧ Duo wx bt x' y' ∧ Below W.heap.size W wx
theorem mixLines18 {n kw l gr gl lx cx ly cy lu cu lv cv : Nat} {w : World} {nx ny nu nv : Bool} {ax ay au av : Option Addr} {x y u v : Int} {R L : Nat → Int}
  (hR : Rw17 w gr n R kw) (hL : Rw17 w gl n L kw) (hne : gr ≠ gl)
  (hx : Zm 0 w (.agg #[.bool nx,.slice ax lx cx]) x l) (hy : Zm 0 w (.agg #[.bool ny,.slice ay ly cy]) y l) (hu : Zm 0 w (.agg #[.bool nu,.slice au lu cu]) u l) (hv : Zm 0 w (.agg #[.bool nv,.slice av lv cv]) v l)
  (hF : ∀ j,j < n → ((x * R j + y * L j).natAbs : Int) < pw kw) (hG : ∀ j,j < n → ((u * R j + v * L j).natAbs : Int) < pw kw) (hn : n ≤ 64) (hK : l + kw < 1099511600000) :
  Calls Tryz.prog 40 #[.slice (some ⟨gr,0,none⟩) n n,.slice (some ⟨gl,0,none⟩) n n,.agg #[.bool nx,.slice ax lx cx,.bool ny,.slice ay ly cy,.bool nu,.slice au lu cu,.bool nv,.slice av lv cv]] w (zeH w gr gl n (fun j => x * R j + y * L j) (fun j => u * R j + v * L j) kw) := by
 obtain ⟨F,hFe⟩ : ∃ F : Nat → Int,(fun j => x * R j + y * L j) = F := ⟨_,rfl⟩
 obtain ⟨G,hGe⟩ : ∃ G : Nat → Int,(fun j => u * R j + v * L j) = G := ⟨_,rfl⟩
 have HFj : Hid (∀ j,F j = x * R j + y * L j) := fun j => by rw [← hFe]
 have HGj : Hid (∀ j,G j = u * R j + v * L j) := fun j => by rw [← hGe]
 rw [hFe,hGe];have HFB := hid hF;have HGB := hid hG;obtain ⟨V0,hV0⟩ : ∃ V0,w.alloc (.cells #[.bool nx,.slice ax lx cx,.bool ny,.slice ay ly cy,.bool nu,.slice au lu cu,.bool nv,.slice av lv cv] 81) = V0 := ⟨_,rfl⟩
 obtain ⟨b0,sz0⟩ := alo1 w (.cells #[.bool nx,.slice ax lx cx,.bool ny,.slice ay ly cy,.bool nu,.slice au lu cu,.bool nv,.slice av lv cv] 81);rw [hV0] at b0 sz0;have hgw := hR.blk;have hlw := hL.blk;have dB : Cel V0 w.heap.size 81 [.bool nx,.slice ax lx cx,.bool ny,.slice ay ly cy,.bool nu,.slice au lu cu,.bool nv,.slice av lv cv] := by rw [← hV0];exact Cel.new w _ _
 have KS : Hid (∀ wx,Touch (zbC gr gl) V0 wx → Cel wx w.heap.size 81 [.bool nx,.slice ax lx cx,.bool ny,.slice ay ly cy,.bool nu,.slice au lu cu,.bool nv,.slice av lv cv]
   ∧ Zm 0 wx (.agg #[.bool nx,.slice ax lx cx]) x l ∧ Zm 0 wx (.agg #[.bool ny,.slice ay ly cy]) y l ∧ Zm 0 wx (.agg #[.bool nu,.slice au lu cu]) u l ∧ Zm 0 wx (.agg #[.bool nv,.slice av lv cv]) v l) := fun wx htw => by
  have ty := htw.tyS18 (T := 40) (fun b q => by
   rcases q with rfl | rfl
   ·exact (hR.now b0).cel18
   ·exact (hL.now b0).cel18)
  exact ⟨dB.ty13 ty (by decide),(hx.now b0).ty ty (by decide),(hy.now b0).ty ty (by decide),(hu.now b0).ty ty (by decide),(hv.now b0).ty ty (by decide)⟩
 have H0 : Hid (zdH V0 gr gl n R F L G kw n (.int .i64 ((0 : Nat) : Int)) V0) := ⟨0,rfl,Nat.zero_le _,rfl,(hR.now b0).congr fun j hj => by unfold mx18;rw [if_neg (by omega)],(hL.now b0).congr fun j hj => by unfold mx18;rw [if_neg (by omega)],Touch.refl _ _⟩
 have HKK := hid hK;have HNE := hid hne;have HGW : Hid (gr < V0.heap.size ∧ gl < V0.heap.size) := ⟨by omega,by omega⟩
 have FIN : Hid (∀ wx,Rw17 wx gr n (mx18 R F n) kw → Rw17 wx gl n (mx18 L G n) kw → Touch (zbC gr gl) V0 wx → zeH w gr gl n F G kw (.returned (.tuple #[])) wx) := fun wx h1 h2 h3 => ⟨rfl,h1.congr fun j hj => if_pos hj,h2.congr fun j hj => if_pos hj,(Touch.ofBelow b0).trans h3⟩
 have EV0 := hid hV0;obtain ⟨bx,hbx⟩ : ∃ bx,w.heap.size = bx := ⟨_,rfl⟩
 rw [hbx] at KS;have EBX := hid hbx;clear hR hL hne hx hy hu hv hF hG hFe hGe hK b0 sz0 hV0 dB hgw hlw hbx;go_enter Tryz.func40,Tryz.ntmps40;go_wp2_with fail;rw [EV0.out,EBX.out]
 go_loopg [11] n (fun gk s9 wx => zdH V0 gr gl n R F L G kw gk s9 wx)
 case atStart => exact H0.out
 case round =>
  clear H0;obtain ⟨j,rfl,hjn,hgk,hrw,hlw,htw⟩ := hrel;have RW := hid hrw;have LW := hid hlw;have TW := hid htw;have HG := hid hgk;clear hrw hlw htw hgk
  by_cases hlt : j < n
  ·have hlt' : (j : Int) < (n : Int) := by omega
   obtain ⟨nn,an,ln,cn,q0,q1,-,-,zn⟩ := RW.out.at hlt;obtain ⟨nm,am,lm,cm,r0,r1,-,-,zm⟩ := LW.out.at hlt;rw [show mx18 R F j j = R j from if_neg (by omega)] at zn;rw [show mx18 L G j j = L j from if_neg (by omega)] at zm;have ZN := hid zn;have ZR := hid zm;have HMM : Hid (n - (j + 1) < gk) := by unfold Hid;rw [HG.out];omega
   have hwj := zVA (i := j) (by omega);clear zn zm HG;go_wp2_with fail
   go_cut [7,8] from 14 to 54 (fun s1 s2 wx => Bx18 wr wx s1 s2 (.bool nn) (.slice an ln cn) (.bool nm) (.slice am lm cm))
   case first =>
    have KB : Hid (∀ w',Below wr.heap.size wr w' → w'.cell? ⟨gr,j * 2,none⟩ = some (.bool nn) ∧ w'.cell? ⟨gr,j * 2 + 1,none⟩ = some (.slice an ln cn) ∧ w'.cell? ⟨gl,j * 2,none⟩ = some (.bool nm) ∧ w'.cell? ⟨gl,j * 2 + 1,none⟩ = some (.slice am lm cm)) := fun w' h => ⟨cnow h q0,cnow h q1,cnow h r0,cnow h r1⟩
    refine zFA (fun w' => w'.cell? ⟨gr,j * 2,none⟩ = some (.bool nn) ∧ w'.cell? ⟨gr,j * 2 + 1,none⟩ = some (.slice an ln cn) ∧ w'.cell? ⟨gl,j * 2,none⟩ = some (.bool nm) ∧ w'.cell? ⟨gl,j * 2 + 1,none⟩ = some (.slice am lm cm)) 11 (by kernel_rfl) ?_;obtain ⟨D1,hD⟩ : ∃ D1,wr.drew = D1 := ⟨_,rfl⟩
    have GB : Hid (Below wr.heap.size wr D1) := by unfold Hid;rw [← hD];exact (Below.refl _ _).drew
    rw [hD];clear hD;have GZ : Hid (wr.heap.size ≤ D1.heap.size) := GB.out.size;refine zHA [(0,(.slice (some ⟨gr,0,none⟩) n n)),(1,(.int .i64 (j : Int))),(2,(.pointer (some ⟨gr,j * 2,none⟩))),(3,(.agg #[.bool nn,.slice an ln cn])),(4,(.slice (some ⟨gl,0,none⟩) n n)),(5,(.int .i64 (j : Int))),(6,(.pointer (some ⟨gl,j * 2,none⟩))),(7,(.agg #[.bool nm,.slice am lm cm]))] 8 ?_ (KB.out _ GB.out) ?_
    ·simp only [zSA,gA9,g09,g19,Act.put,sI9,s09,s19]
     (repeat' (first | exact trivial | refine And.intro (Or.inl ⟨by rfl,?_⟩) ?_)) <;> (intro w hSw;(try dsimp only at hSw);go_simp)
    simp only [actV,gA9,g09,g19,Act.put,sI9,s09,s19];refine zQA (i := 8) (j := 9) (oi := ⟨some 7,.alloc 40,0, "hand.go:60",#[],none⟩) (oj := ⟨some 8,.alloc 40,0, "hand.go:60",#[],none⟩) (by kernel_rfl) rfl rfl (fun K hK => ?_) (fun K hK => ?_)
    ·skip
     go_simp;obtain ⟨V2,hW⟩ : ∃ V2,D1.alloc zbox = V2 := ⟨_,rfl⟩
     obtain ⟨b,sz2⟩ := alo1 D1 zbox;rw [hW] at b sz2;replace GB := hid (below_step GB.out b);have DP : Hid (Duo V2 D1.heap.size (.bool false) (.slice none 0 0)) := by unfold Hid;rw [← hW];exact Duo.new D1 _ _
     have SP := hid (show wr.heap.size ≤ D1.heap.size from GZ.out);replace GZ : Hid (wr.heap.size ≤ V2.heap.size) := GB.out.size;clear sz2;rw [hW];clear hW b;refine hK.out _ _ (fun _ => KB.out _ GB.out) ?_;clear hK
     try simp only [Act.put]
     refine zAA (i := 9) (o := ⟨some 8,.alloc 40,0, "hand.go:60",#[],none⟩) (by kernel_rfl) rfl (fun K hK => ?_);go_simp;obtain ⟨V3,hW⟩ : ∃ V3,V2.alloc zbox = V3 := ⟨_,rfl⟩
     obtain ⟨b,sz3⟩ := alo1 V2 zbox;rw [hW] at b sz3;replace GB := hid (below_step GB.out b);have DT : Hid (Duo V3 V2.heap.size (.bool false) (.slice none 0 0)) := by unfold Hid;rw [← hW];exact Duo.new V2 _ _
     have ST := hid (show wr.heap.size ≤ V2.heap.size from GZ.out);replace GZ : Hid (wr.heap.size ≤ V3.heap.size) := GB.out.size;have NE : Hid (D1.heap.size ≠ V2.heap.size) := by unfold Hid;have := DP.out.blk;omega
     replace DP := hid (DP.out.step b);clear sz3;rw [hW];clear hW b;refine hK.out _ _ (fun _ => KB.out _ GB.out) ?_;clear hK
     try simp only [Act.put]
     refine zAA (i := 10) (o := ⟨none,.store 40 (.tmp 7) (.tmp 17),0, "hand.go:60",#[⟨8,.data⟩,⟨3,.data⟩,⟨0,.phase⟩,⟨1,.phase⟩,⟨2,.phase⟩,⟨3,.phase⟩,⟨4,.textOnly .lateStores⟩,⟨5,.textOnly .lateStores⟩,⟨6,.textOnly .lateStores⟩,⟨7,.textOnly .lateStores⟩,⟨8,.phase⟩,⟨9,.phase⟩],none⟩) (by kernel_rfl) rfl (fun K hK => ?_);have e0 := DP.out.c0;have e1 := DP.out.c1;have e2 := DP.out.fz 0;have e3 := DP.out.fz 1;go_simp;clear e0 e1 e2 e3;obtain ⟨V4,hW⟩ : ∃ V4,((V3.setCell ⟨D1.heap.size,0,none⟩ (.bool nn)).setCell ⟨D1.heap.size,1,none⟩ (.slice an ln cn)) = V4 := ⟨_,rfl⟩
     replace GB : Hid (Below wr.heap.size wr V4) := by unfold Hid;rw [← hW];exact bset (bset GB.out SP.out) SP.out
     have QP : Hid (Duo V4 D1.heap.size (.bool nn) (.slice an ln cn)) := by unfold Hid;rw [← hW];exact DP.out.set _ _
     replace DT : Hid (Duo V4 V2.heap.size (.bool false) (.slice none 0 0)) := by unfold Hid;rw [← hW];exact DT.out.box (by have := NE.out;omega) _ _
     clear DP;rw [hW];clear hW;refine hK.out _ _ (fun _ => KB.out _ GB.out) ?_;clear hK
     try simp only [Act.put]
     refine zAA (i := 11) (o := ⟨none,.store 40 (.tmp 8) (.tmp 21),0, "hand.go:60",#[⟨9,.data⟩,⟨7,.data⟩,⟨10,.chain⟩,⟨0,.phase⟩,⟨1,.phase⟩,⟨2,.phase⟩,⟨3,.phase⟩,⟨4,.phase⟩,⟨5,.phase⟩,⟨6,.phase⟩,⟨7,.phase⟩,⟨8,.phase⟩,⟨9,.phase⟩,⟨10,.phase⟩],none⟩) (by kernel_rfl) rfl (fun K hK => ?_);have e0 := DT.out.c0;have e1 := DT.out.c1;have e2 := DT.out.fz 0;have e3 := DT.out.fz 1;go_simp;clear e0 e1 e2 e3;obtain ⟨V5,hW⟩ : ∃ V5,((V4.setCell ⟨V2.heap.size,0,none⟩ (.bool nm)).setCell ⟨V2.heap.size,1,none⟩ (.slice am lm cm)) = V5 := ⟨_,rfl⟩
     replace GB : Hid (Below wr.heap.size wr V5) := by unfold Hid;rw [← hW];exact bset (bset GB.out ST.out) ST.out
     have QT : Hid (Duo V5 V2.heap.size (.bool nm) (.slice am lm cm)) := by unfold Hid;rw [← hW];exact DT.out.set _ _
     replace QP : Hid (Duo V5 D1.heap.size (.bool nn) (.slice an ln cn)) := by unfold Hid;rw [← hW];exact QP.out.box (by have := NE.out;omega) _ _
     clear DT;rw [hW];clear hW;refine hK.out _ _ (fun h => absurd h (by decide)) ?_;clear hK
     try simp only [Act.put]
     refine zDA (by kernel_rfl) ?_ _;have FN4 : Hid (Bx18 wr V5 (.pointer (some ⟨D1.heap.size,0,none⟩)) (.pointer (some ⟨V2.heap.size,0,none⟩)) (.bool nn) (.slice an ln cn) (.bool nm) (.slice am lm cm)) := ⟨_,_,rfl,rfl,SP.out,ST.out,by have := NE.out;omega,QP.out,QT.out,GB.out⟩
     clear GB GZ QP QT SP ST NE;go_wp2_with fail;go_meet;exact FN4.out
    ·skip
     go_simp;obtain ⟨V6,hW⟩ : ∃ V6,D1.alloc zbox = V6 := ⟨_,rfl⟩
     obtain ⟨b,sz6⟩ := alo1 D1 zbox;rw [hW] at b sz6;replace GB := hid (below_step GB.out b);have DT : Hid (Duo V6 D1.heap.size (.bool false) (.slice none 0 0)) := by unfold Hid;rw [← hW];exact Duo.new D1 _ _
     have ST := hid (show wr.heap.size ≤ D1.heap.size from GZ.out);replace GZ : Hid (wr.heap.size ≤ V6.heap.size) := GB.out.size;clear sz6;rw [hW];clear hW b;refine hK.out _ _ (fun _ => KB.out _ GB.out) ?_;clear hK
     try simp only [Act.put]
     refine zAA (i := 8) (o := ⟨some 7,.alloc 40,0, "hand.go:60",#[],none⟩) (by kernel_rfl) rfl (fun K hK => ?_);go_simp;obtain ⟨V7,hW⟩ : ∃ V7,V6.alloc zbox = V7 := ⟨_,rfl⟩
     obtain ⟨b,sz7⟩ := alo1 V6 zbox;rw [hW] at b sz7;replace GB := hid (below_step GB.out b);have DP : Hid (Duo V7 V6.heap.size (.bool false) (.slice none 0 0)) := by unfold Hid;rw [← hW];exact Duo.new V6 _ _
     have SP := hid (show wr.heap.size ≤ V6.heap.size from GZ.out);replace GZ : Hid (wr.heap.size ≤ V7.heap.size) := GB.out.size;have NE : Hid (D1.heap.size ≠ V6.heap.size) := by unfold Hid;have := DT.out.blk;omega
     replace DT := hid (DT.out.step b);clear sz7;rw [hW];clear hW b;refine hK.out _ _ (fun _ => KB.out _ GB.out) ?_;clear hK
     try simp only [Act.put]
     refine zAA (i := 10) (o := ⟨none,.store 40 (.tmp 7) (.tmp 17),0, "hand.go:60",#[⟨8,.data⟩,⟨3,.data⟩,⟨0,.phase⟩,⟨1,.phase⟩,⟨2,.phase⟩,⟨3,.phase⟩,⟨4,.textOnly .lateStores⟩,⟨5,.textOnly .lateStores⟩,⟨6,.textOnly .lateStores⟩,⟨7,.textOnly .lateStores⟩,⟨8,.phase⟩,⟨9,.phase⟩],none⟩) (by kernel_rfl) rfl (fun K hK => ?_);have e0 := DP.out.c0;have e1 := DP.out.c1;have e2 := DP.out.fz 0;have e3 := DP.out.fz 1;go_simp;clear e0 e1 e2 e3;obtain ⟨V8,hW⟩ : ∃ V8,((V7.setCell ⟨V6.heap.size,0,none⟩ (.bool nn)).setCell ⟨V6.heap.size,1,none⟩ (.slice an ln cn)) = V8 := ⟨_,rfl⟩
     replace GB : Hid (Below wr.heap.size wr V8) := by unfold Hid;rw [← hW];exact bset (bset GB.out SP.out) SP.out
     have QP : Hid (Duo V8 V6.heap.size (.bool nn) (.slice an ln cn)) := by unfold Hid;rw [← hW];exact DP.out.set _ _
     replace DT : Hid (Duo V8 D1.heap.size (.bool false) (.slice none 0 0)) := by unfold Hid;rw [← hW];exact DT.out.box (by have := NE.out;omega) _ _
     clear DP;rw [hW];clear hW;refine hK.out _ _ (fun _ => KB.out _ GB.out) ?_;clear hK
     try simp only [Act.put]
     refine zAA (i := 11) (o := ⟨none,.store 40 (.tmp 8) (.tmp 21),0, "hand.go:60",#[⟨9,.data⟩,⟨7,.data⟩,⟨10,.chain⟩,⟨0,.phase⟩,⟨1,.phase⟩,⟨2,.phase⟩,⟨3,.phase⟩,⟨4,.phase⟩,⟨5,.phase⟩,⟨6,.phase⟩,⟨7,.phase⟩,⟨8,.phase⟩,⟨9,.phase⟩,⟨10,.phase⟩],none⟩) (by kernel_rfl) rfl (fun K hK => ?_);have e0 := DT.out.c0;have e1 := DT.out.c1;have e2 := DT.out.fz 0;have e3 := DT.out.fz 1;go_simp;clear e0 e1 e2 e3;obtain ⟨V9,hW⟩ : ∃ V9,((V8.setCell ⟨D1.heap.size,0,none⟩ (.bool nm)).setCell ⟨D1.heap.size,1,none⟩ (.slice am lm cm)) = V9 := ⟨_,rfl⟩
     replace GB : Hid (Below wr.heap.size wr V9) := by unfold Hid;rw [← hW];exact bset (bset GB.out ST.out) ST.out
     have QT : Hid (Duo V9 D1.heap.size (.bool nm) (.slice am lm cm)) := by unfold Hid;rw [← hW];exact DT.out.set _ _
     replace QP : Hid (Duo V9 V6.heap.size (.bool nn) (.slice an ln cn)) := by unfold Hid;rw [← hW];exact QP.out.box (by have := NE.out;omega) _ _
     clear DT;rw [hW];clear hW;refine hK.out _ _ (fun h => absurd h (by decide)) ?_;clear hK
     try simp only [Act.put]
     refine zDA (by kernel_rfl) ?_ _;have FN4 : Hid (Bx18 wr V9 (.pointer (some ⟨V6.heap.size,0,none⟩)) (.pointer (some ⟨D1.heap.size,0,none⟩)) (.bool nn) (.slice an ln cn) (.bool nm) (.slice am lm cm)) := ⟨_,_,rfl,rfl,SP.out,ST.out,by have := NE.out;omega,QP.out,QT.out,GB.out⟩
     clear GB GZ QP QT SP ST NE;go_wp2_with fail;go_meet;exact FN4.out
   case rest =>
   rename World => W4
   obtain ⟨bp,bm,rfl,rfl,hbp,hbm,hpm,dp,dm,b⟩ := hcut;have T4 : Hid (Touch (zbC gr gl) V0 W4) := TW.out.trans (.ofBelow b);have DP := hid dp;have DM := hid dm;replace ZN := hid (ZN.out.now b);replace ZR := hid (ZR.out.now b);have LW4 := hid (LW.out.now b);have RW4 := hid (RW.out.now b);have hwz := TW.out.size;have HBP : Hid (bp ≠ gr ∧ bp ≠ gl ∧ bm ≠ gr ∧ bm ≠ gl) := by unfold Hid;have := HGW.out;omega
   have p0 := dp.c0;have p1 := dp.c1;have m0 := dm.c0;have m1 := dm.c1;have HI1 := hid (zOD ZN.out.zi);clear dp dm b q0 q1 r0 r1 hbp hbm hpm TW LW RW hwz;go_upto_region 5 with fail
   go_cut [27] from 22 to 54 (fun s1 wx => s1 = .bool (decide (R j = 0 ∧ L j = 0)) ∧ Below W4.heap.size W4 wx)
   case first =>
    go_wp2_with fail;refine HI1.out.mono ?_;rintro e w5 ⟨rfl,b⟩;have BB := hid b;replace m0 := cnow b m0;replace m1 := cnow b m1;have HI2 := hid (zOD (ZR.out.now b).zi);clear HI1 b p0 p1
    by_cases hz : R j = 0
    ·have hs0 : decide (R j = 0) = true := decide_eq_true hz
     rw [hs0];have e2 : Hid (decide (L j = 0) = decide (R j = 0 ∧ L j = 0)) := by unfold Hid;simp [hz]
     clear hz hs0;go_wp2_with fail;refine HI2.out.mono ?_;rintro e w6 ⟨rfl,b⟩;have BC := hid (below_step BB.out b);clear HI2 BB b m0 m1;go_wp2_with fail;go_meet;exact ⟨congrArg Value.bool e2.out,BC.out⟩
    ·have hs0 : decide (R j = 0) = false := decide_eq_false hz
     rw [hs0];have e2 : Hid (false = decide (R j = 0 ∧ L j = 0)) := by unfold Hid;simp [hz]
     clear hz hs0 HI2 m0 m1;go_wp2_with fail;go_meet;exact ⟨congrArg Value.bool e2.out,BB.out⟩
   case rest =>
   rename World => W5
   obtain ⟨rfl,b⟩ := hcut;have T5 : Hid (Touch (zbC gr gl) V0 W5) := T4.out.trans (.ofBelow b);replace DP := hid (DP.out.step b);replace DM := hid (DM.out.step b);replace ZN := hid (ZN.out.now b);have ZQ := hid (ZR.out.now b);have LW5 := hid (LW4.out.now b);have RW5 := hid (RW4.out.now b);clear T4 LW4 RW4 ZR b HI1 p0 p1 m0 m1
   by_cases hz : R j = 0 ∧ L j = 0
   ·have hs0 : decide (R j = 0 ∧ L j = 0) = true := decide_eq_true hz
    rw [hs0];have HN1 : Hid (zdH V0 gr gl n R F L G kw (n - (j + 1)) (.int .i64 ((j + 1 : Nat) : Int)) W5) := ⟨j + 1,rfl,by omega,rfl,RW5.out.congr fun t ht => znE ht (by rw [HFj.out,hz.1,hz.2];simp),LW5.out.congr fun t ht => znE ht (by rw [HGj.out,hz.1,hz.2];simp),T5.out⟩
    clear hz hs0 T5 DP DM ZN ZQ LW5 RW5;go_wp2_with fail;go_roundg (n - (j + 1))
    case rel => exact HN1.out
    case measure => exact HMM.out
   have hs0 : decide (R j = 0 ∧ L j = 0) = false := decide_eq_false hz;rw [hs0];clear hz hs0;obtain ⟨k3,k4,k5,k6,k7⟩ := KS.out _ T5.out;have ZX5 := hid k4;have ZY5 := hid k5;have p0 := DP.out.c0;have p1 := DP.out.c1;have m0 := DM.out.c0;have m1 := DM.out.c1;have y0 := k3.at (i := 0) rfl;have y1 := k3.at (i := 1) rfl;have y2 := k3.at (i := 2) rfl;have y3 := k3.at (i := 3) rfl;clear k3 k4 k5 k6 k7;go_wp2_with fail;have KB : Hid (∀ w',Below W5.heap.size W5 w' → w'.cell? ⟨bx,0,none⟩ = some (.bool nx) ∧ w'.cell? ⟨bx,1,none⟩ = some (.slice ax lx cx) ∧ w'.cell? ⟨bx,2,none⟩ = some (.bool ny) ∧ w'.cell? ⟨bx,3,none⟩ = some (.slice ay ly cy) ∧ w'.cell? ⟨bp,0,none⟩ = some (.bool nn) ∧ w'.cell? ⟨bp,1,none⟩ = some (.slice an ln cn) ∧ w'.cell? ⟨bm,0,none⟩ = some (.bool nm) ∧ w'.cell? ⟨bm,1,none⟩ = some (.slice am lm cm)) := fun w' h => ⟨cnow h y0,cnow h y1,cnow h y2,cnow h y3,cnow h p0,cnow h p1,cnow h m0,cnow h m1⟩
   refine zFA (fun w' => w'.cell? ⟨bx,0,none⟩ = some (.bool nx) ∧ w'.cell? ⟨bx,1,none⟩ = some (.slice ax lx cx) ∧ w'.cell? ⟨bx,2,none⟩ = some (.bool ny) ∧ w'.cell? ⟨bx,3,none⟩ = some (.slice ay ly cy) ∧ w'.cell? ⟨bp,0,none⟩ = some (.bool nn) ∧ w'.cell? ⟨bp,1,none⟩ = some (.slice an ln cn) ∧ w'.cell? ⟨bm,0,none⟩ = some (.bool nm) ∧ w'.cell? ⟨bm,1,none⟩ = some (.slice am lm cm)) 13 (by kernel_rfl) ?_;obtain ⟨D41,hD⟩ : ∃ D41,W5.drew = D41 := ⟨_,rfl⟩
   have GB : Hid (Below W5.heap.size W5 D41) := by unfold Hid;rw [← hD];exact (Below.refl _ _).drew
   rw [hD];clear hD;refine zHA [(0,(.slice (some ⟨gr,0,none⟩) n n)),(1,(.int .i64 (j : Int))),(2,(.pointer (some ⟨bx,0,none⟩))),(3,(.pointer (some ⟨bx,0,none⟩))),(4,(.agg #[.bool nx,.slice ax lx cx])),(5,(.agg #[.bool nn,.slice an ln cn])),(6,(.pointer (some ⟨bx,0,none⟩))),(7,(.pointer (some ⟨bx,2,none⟩))),(8,(.agg #[.bool ny,.slice ay ly cy])),(9,(.agg #[.bool nm,.slice am lm cm]))] 10 ?_ (KB.out _ GB.out) ?_
   ·simp only [zSA,gA9,g09,g19,Act.put,sI9,s09,s19]
    (repeat' (first | exact trivial | refine And.intro (Or.inl ⟨by rfl,?_⟩) ?_)) <;> (intro w hSw;(try dsimp only at hSw);go_simp)
   simp only [actV,gA9,g09,g19,Act.put,sI9,s09,s19];refine zAA (i := 10) (o := ⟨some 38,.call { callee := .value (.func 64),args := #[.tmp 36,.tmp 37],argTypes := #[40,40] },40, "hand.go:64",#[⟨8,.data⟩,⟨9,.data⟩],none⟩) (by kernel_rfl) rfl (fun K hK => ?_);go_simp;go_at_call 64;refine (zoE (ZY5.out.now GB.out).zi (ZQ.out.now GB.out).zi (by have := HKK.out;omega)).mono ?_;rintro e w42 ⟨r1,rfl,m1q,b⟩;have lz42 := (show Below _ _ _ from b).size;replace GB := hid (below_step GB.out b);have M1 := hid (m1q.mono (Nat.zero_le _));clear m1q;clear b;refine hK.out _ _ (fun _ => KB.out _ GB.out) ?_;clear hK;refine zAA (i := 11) (o := ⟨some 39,.call { callee := .value (.func 65),args := #[.tmp 32,.tmp 33,.tmp 38],argTypes := #[40,40,40] },40, "hand.go:64",#[⟨4,.data⟩,⟨5,.data⟩,⟨10,.data⟩,⟨10,.chain⟩],none⟩) (by kernel_rfl) rfl (fun K hK => ?_);go_simp;go_at_call 65;refine (zGG (ZX5.out.now GB.out).zi (ZN.out.now GB.out).zi M1.out.zi (by have := HKK.out;omega) (by have := HKK.out;omega)).mono ?_;rintro e w43 ⟨r2,rfl,m1q,b⟩;have lz43 := (show Below _ _ _ from b).size;replace GB := hid (below_step GB.out b);have M3 := hid ((m1q.mono (Nat.zero_le _)).fit (l := kw) (HFB.out j hlt));obtain ⟨nr,xr,ar,cr,rfl⟩ := m1q.parts;have RW6 := hid (RW5.out.now GB.out);clear m1q M1;clear b;refine hK.out _ _ (fun _ => KB.out _ GB.out) ?_;clear hK;refine zHA [(12,(.pointer (some ⟨gr,j * 2,none⟩)))] 1 ?_ (KB.out _ GB.out) ?_
   ·simp only [zSA,gA9,g09,g19,Act.put,sI9,s09,s19]
    (repeat' (first | exact trivial | refine And.intro (Or.inl ⟨by rfl,?_⟩) ?_)) <;> (intro w hSw;(try dsimp only at hSw);go_simp)
   simp only [actV,gA9,g09,g19,Act.put,sI9,s09,s19];refine zAA (i := 13) (o := ⟨none,.store 40 (.tmp 40) (.tmp 39),0, "hand.go:64",#[⟨12,.data⟩,⟨11,.data⟩,⟨11,.chain⟩,⟨0,.phase⟩,⟨1,.phase⟩,⟨2,.phase⟩,⟨3,.phase⟩,⟨4,.phase⟩,⟨5,.phase⟩,⟨6,.phase⟩,⟨7,.phase⟩,⟨8,.phase⟩,⟨9,.phase⟩,⟨10,.phase⟩,⟨11,.phase⟩],none⟩) (by kernel_rfl) rfl (fun K hK => ?_);obtain ⟨_,_,_,_,e0,e1,e2,e3,-⟩ := RW6.out.at hlt;go_simp;clear e0 e1 e2 e3;obtain ⟨V44,hW⟩ : ∃ V44,((w43.setCell ⟨gr,j * 2,none⟩ (.bool nr)).setCell ⟨gr,j * 2 + 1,none⟩ (.slice ar xr.length cr)) = V44 := ⟨_,rfl⟩
   obtain ⟨hp6,ty6⟩ := RW6.out.put hlt (show Zm 0 w43 (.agg #[.bool nr,.slice ar xr.length cr]) (F j) kw by rw [HFj.out j];exact M3.out);have TT : Touch (zbC gr gl) V0 ((w43.setCell ⟨gr,j * 2,none⟩ (.bool nr)).setCell ⟨gr,j * 2 + 1,none⟩ (.slice ar xr.length cr)) := ((T5.out.trans (.ofBelow GB.out)).setCell (.inr (.inl rfl)) _ _).setCell (.inr (.inl rfl)) _ _;have hgl1 : ∀ {b : Nat} {x0 y0 : Value},Duo W5 b x0 y0 → b ≠ gr → Duo ((w43.setCell ⟨gr,j * 2,none⟩ (.bool nr)).setCell ⟨gr,j * 2 + 1,none⟩ (.slice ar xr.length cr)) b x0 y0 := fun d hb => ((d.step GB.out).ne (fun q => hb q.symm)).ne (fun q => hb q.symm)
   have lw6 : Rw17 ((w43.setCell ⟨gr,j * 2,none⟩ (.bool nr)).setCell ⟨gr,j * 2 + 1,none⟩ (.slice ar xr.length cr)) gl n (mx18 L G j) kw := (LW5.out.now GB.out).oth18 (S := (· = gr)) (zhB (Touch.refl _ _) _ _) ty6 (fun q => HNE.out q.symm);have zn6 := (ZN.out.now GB.out).ty ty6 (by decide);have zq6 := (ZQ.out.now GB.out).ty ty6 (by decide);have dp6 := hgl1 DP.out HBP.out.1;have dm6 := hgl1 DM.out HBP.out.2.2.1;rw [hW] at hp6 TT lw6 zn6 zq6 dp6 dm6;have RW7 := hid (hp6.congr fun t ht => zND ht);have LW7 := hid lw6;have T7 := hid TT;have ZN7 := hid zn6;have ZQ7 := hid zq6;have DP7 := hid dp6;have DM7 := hid dm6;clear hp6 TT lw6 zn6 zq6 dp6 dm6 hgl1 ty6 RW6 M3;rw [hW];clear hW;refine hK.out _ _ (fun h => absurd h (by decide)) ?_;clear hK
   try simp only [Act.put]
   refine zDA (by kernel_rfl) ?_ _;clear GB KB p0 p1 m0 m1 y0 y1 y2 y3 ZX5 ZY5 LW5 RW5 T5 DP DM ZQ ZN;obtain ⟨W7,hW7⟩ : ∃ W7,V44 = W7 := ⟨_,rfl⟩
   rw [hW7] at LW7 RW7 T7 ZN7 ZQ7 DP7 DM7 ⊢;clear hW7;obtain ⟨k3,k4,k5,k6,k7⟩ := KS.out _ T7.out;have ZU7 := hid k6;have ZV7 := hid k7;have p0 := DP7.out.c0;have p1 := DP7.out.c1;have m0 := DM7.out.c0;have m1 := DM7.out.c1;have y4 := k3.at (i := 4) rfl;have y5 := k3.at (i := 5) rfl;have y6 := k3.at (i := 6) rfl;have y7 := k3.at (i := 7) rfl;clear k3 k4 k5 k6 k7;go_wp2_with fail;have KB : Hid (∀ w',Below W7.heap.size W7 w' → w'.cell? ⟨bx,4,none⟩ = some (.bool nu) ∧ w'.cell? ⟨bx,5,none⟩ = some (.slice au lu cu) ∧ w'.cell? ⟨bx,6,none⟩ = some (.bool nv) ∧ w'.cell? ⟨bx,7,none⟩ = some (.slice av lv cv) ∧ w'.cell? ⟨bp,0,none⟩ = some (.bool nn) ∧ w'.cell? ⟨bp,1,none⟩ = some (.slice an ln cn) ∧ w'.cell? ⟨bm,0,none⟩ = some (.bool nm) ∧ w'.cell? ⟨bm,1,none⟩ = some (.slice am lm cm)) := fun w' h => ⟨cnow h y4,cnow h y5,cnow h y6,cnow h y7,cnow h p0,cnow h p1,cnow h m0,cnow h m1⟩
   refine zFA (fun w' => w'.cell? ⟨bx,4,none⟩ = some (.bool nu) ∧ w'.cell? ⟨bx,5,none⟩ = some (.slice au lu cu) ∧ w'.cell? ⟨bx,6,none⟩ = some (.bool nv) ∧ w'.cell? ⟨bx,7,none⟩ = some (.slice av lv cv) ∧ w'.cell? ⟨bp,0,none⟩ = some (.bool nn) ∧ w'.cell? ⟨bp,1,none⟩ = some (.slice an ln cn) ∧ w'.cell? ⟨bm,0,none⟩ = some (.bool nm) ∧ w'.cell? ⟨bm,1,none⟩ = some (.slice am lm cm)) 13 (by kernel_rfl) ?_;obtain ⟨D45,hD⟩ : ∃ D45,W7.drew = D45 := ⟨_,rfl⟩
   have GB : Hid (Below W7.heap.size W7 D45) := by unfold Hid;rw [← hD];exact (Below.refl _ _).drew
   rw [hD];clear hD;refine zHA [(0,(.slice (some ⟨gl,0,none⟩) n n)),(1,(.int .i64 (j : Int))),(2,(.pointer (some ⟨bx,4,none⟩))),(3,(.pointer (some ⟨bx,4,none⟩))),(4,(.agg #[.bool nu,.slice au lu cu])),(5,(.agg #[.bool nn,.slice an ln cn])),(6,(.pointer (some ⟨bx,4,none⟩))),(7,(.pointer (some ⟨bx,6,none⟩))),(8,(.agg #[.bool nv,.slice av lv cv])),(9,(.agg #[.bool nm,.slice am lm cm]))] 10 ?_ (KB.out _ GB.out) ?_
   ·simp only [zSA,gA9,g09,g19,Act.put,sI9,s09,s19]
    (repeat' (first | exact trivial | refine And.intro (Or.inl ⟨by rfl,?_⟩) ?_)) <;> (intro w hSw;(try dsimp only at hSw);go_simp)
   simp only [actV,gA9,g09,g19,Act.put,sI9,s09,s19];refine zAA (i := 10) (o := ⟨some 51,.call { callee := .value (.func 64),args := #[.tmp 49,.tmp 50],argTypes := #[40,40] },40, "hand.go:65",#[⟨8,.data⟩,⟨9,.data⟩],none⟩) (by kernel_rfl) rfl (fun K hK => ?_);go_simp;go_at_call 64;refine (zoE (ZV7.out.now GB.out).zi (ZQ7.out.now GB.out).zi (by have := HKK.out;omega)).mono ?_;rintro e w46 ⟨r1,rfl,m1q,b⟩;have lz46 := (show Below _ _ _ from b).size;replace GB := hid (below_step GB.out b);have M1 := hid (m1q.mono (Nat.zero_le _));clear m1q;clear b;refine hK.out _ _ (fun _ => KB.out _ GB.out) ?_;clear hK;refine zAA (i := 11) (o := ⟨some 52,.call { callee := .value (.func 65),args := #[.tmp 45,.tmp 46,.tmp 51],argTypes := #[40,40,40] },40, "hand.go:65",#[⟨4,.data⟩,⟨5,.data⟩,⟨10,.data⟩,⟨10,.chain⟩],none⟩) (by kernel_rfl) rfl (fun K hK => ?_);go_simp;go_at_call 65;refine (zGG (ZU7.out.now GB.out).zi (ZN7.out.now GB.out).zi M1.out.zi (by have := HKK.out;omega) (by have := HKK.out;omega)).mono ?_;rintro e w47 ⟨r2,rfl,m1q,b⟩;have lz47 := (show Below _ _ _ from b).size;replace GB := hid (below_step GB.out b);have M3 := hid ((m1q.mono (Nat.zero_le _)).fit (l := kw) (HGB.out j hlt));obtain ⟨nr,xr,ar,cr,rfl⟩ := m1q.parts;have LW8 := hid (LW7.out.now GB.out);clear m1q M1;clear b;refine hK.out _ _ (fun _ => KB.out _ GB.out) ?_;clear hK;refine zHA [(12,(.pointer (some ⟨gl,j * 2,none⟩)))] 1 ?_ (KB.out _ GB.out) ?_
   ·simp only [zSA,gA9,g09,g19,Act.put,sI9,s09,s19]
    (repeat' (first | exact trivial | refine And.intro (Or.inl ⟨by rfl,?_⟩) ?_)) <;> (intro w hSw;(try dsimp only at hSw);go_simp)
   simp only [actV,gA9,g09,g19,Act.put,sI9,s09,s19];refine zAA (i := 13) (o := ⟨none,.store 40 (.tmp 53) (.tmp 52),0, "hand.go:65",#[⟨12,.data⟩,⟨11,.data⟩,⟨11,.chain⟩,⟨0,.phase⟩,⟨1,.phase⟩,⟨2,.phase⟩,⟨3,.phase⟩,⟨4,.phase⟩,⟨5,.phase⟩,⟨6,.phase⟩,⟨7,.phase⟩,⟨8,.phase⟩,⟨9,.phase⟩,⟨10,.phase⟩,⟨11,.phase⟩],none⟩) (by kernel_rfl) rfl (fun K hK => ?_);obtain ⟨_,_,_,_,e0,e1,e2,e3,-⟩ := LW8.out.at hlt;go_simp;clear e0 e1 e2 e3;obtain ⟨V48,hW⟩ : ∃ V48,((w47.setCell ⟨gl,j * 2,none⟩ (.bool nr)).setCell ⟨gl,j * 2 + 1,none⟩ (.slice ar xr.length cr)) = V48 := ⟨_,rfl⟩
   have HN1 : Hid (zdH V0 gr gl n R F L G kw (n - (j + 1)) (.int .i64 ((j + 1 : Nat) : Int)) V48) := by
    unfold Hid;rw [← hW];obtain ⟨hp8,ty8⟩ := LW8.out.put hlt (show Zm 0 w47 (.agg #[.bool nr,.slice ar xr.length cr]) (G j) kw by rw [HGj.out j];exact M3.out);exact ⟨j + 1,rfl,by omega,rfl,(RW7.out.now GB.out).oth18 (S := (· = gl)) (zhB (Touch.refl _ _) _ _) ty8 (fun q => HNE.out q),hp8.congr fun t ht => zND ht,((T7.out.trans (.ofBelow GB.out)).setCell (.inr (.inr rfl)) _ _).setCell (.inr (.inr rfl)) _ _⟩
   rw [hW];clear hW;refine hK.out _ _ (fun h => absurd h (by decide)) ?_;clear hK
   try simp only [Act.put]
   refine zDA (by kernel_rfl) ?_ _;clear GB KB M3 LW8 p0 p1 m0 m1 y4 y5 y6 y7 ZU7 ZV7 LW7 RW7 T7 DP7 DM7 ZQ7 ZN7;go_wp2_with fail;go_roundg (n - (j + 1))
   case rel => exact HN1.out
   case measure => exact HMM.out
  ·have hlt' : ¬ (j : Int) < (n : Int) := by omega
   obtain rfl : j = n := by omega
   have FF := hid (FIN.out wr RW.out LW.out TW.out);clear RW LW TW HG FIN;go_wp2;go_end0;exact FF.out
end Go.Proofs.YtmnecbniappnaaaGreat
