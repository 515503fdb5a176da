import Derived.Test.YtfeofdpnhhiclaaGreatQLe19ToTail3
set_option maxRecDepth 100000
set_option maxHeartbeats 6400000
set_option linter.unusedVariables false
set_option linter.unusedSimpArgs false
namespace Go.Proofs.YtfeofdpnhhiclaaGreat
open Go.RowKit
theorem zOA.tyS19 {S : Nat → Prop} {T : TypeId} {w w' : World} (h : zOA S w w') (hS : ∀ b,S b → ∃ L,Cel w b T L) : Ty T w w' :=
 ⟨h.size,fun b L' T' fr e hne => (h.block b (Array.getElem?_eq_some_iff.1 e).1 (fun q => by
  obtain ⟨L,q'⟩ := hS b q;have := e.symm.trans (show w.heap[b]? = _ from q');simp only [Option.some.injEq,Obj.cells.injEq] at this;exact hne this.2.1)).trans e⟩
theorem Rw17.cel19 {w : World} {g n k : Nat} {F : Nat → Int} (h : Rw17 w g n F k) : ∃ L,Cel w g 27 L := by
 obtain ⟨ps,h1,_⟩ := h;exact ⟨_,h1.1⟩
abbrev zHG (g g' : Nat) : Nat → Prop := fun b => b = g ∨ b = g'
theorem Rw17.oth19 {S : Nat → Prop} {w w' : World} {g n k : Nat} {F : Nat → Int} (h : Rw17 w g n F k) (ht : zOA S w w') (hty : Ty 27 w w') (hn : ¬ S g) : Rw17 w' g n F k := by
 obtain ⟨ps,h1,h2⟩ := h;exact ⟨ps,⟨(ht.block g h1.1.blk hn).trans h1.1,h1.2⟩,h2.ty hty (by decide)⟩
def zrH (w : World) (gr gl n c : Nat) (R F L G : Nat → Int) (kw gk : Nat) (s : Value) (wx : World) : Prop := ∃ j : Nat,s = .int .i64 (j : Int) ∧ c ≤ j ∧ j ≤ n ∧ gk = n - j ∧ Rw17 wx gr n (mx13 R F j) kw ∧ Rw17 wx gl n (mx13 L G j) kw ∧ zOA (zHG gr gl) w wx
def Bx19 (W wx : World) (s1 s2 x y : Value) (z : Int) (k : Nat) : Prop := ∃ bp bt n,∃ xr : List Int,∃ a c,s1 = .pointer (some ⟨bp,0,none⟩) ∧ s2 = .pointer (some ⟨bt,0,none⟩) ∧ W.heap.size ≤ bp ∧ W.heap.size ≤ bt ∧ bp ≠ bt ∧ Duo wx bp x y ∧ Duo wx bt (.bool n) (.slice a xr.length c) ∧ Zm 0 wx (.agg #[.bool n,.slice a xr.length c]) z k ∧ Below W.heap.size W wx
def zsH (w : World) (gr gl n : Nat) (F G : Nat → Int) (kw : Nat) (e : Ending) (w' : World) : Prop := e = .returned (.tuple #[]) ∧ Rw17 w' gr n F kw ∧ Rw17 w' gl n G kw ∧ zOA (zHG gr gl) w w'
theorem mix19 {B bt n k kw l c gr ld cd la lc lx cx ly cy lu cu lv cv : Nat} {w : World} {nd nx ny nu nv : Bool} {ad ax ay au av : Option Addr} {D x y u v : Int} {gs : Nat → Nat} {L : Nat → Nat → Int} {R : Nat → Int}
  (hT : Tg19 B w bt nd ad ld cd (.slice (some ⟨la,0,none⟩) n lc) n D gs L k kw) (hc : c < n) (hR : Rw17 w gr n R kw) (hne : gr ≠ gs c)
  (hx : Zm 0 w (.agg #[.bool nx,.slice ax lx cx]) x l) (hy : Zm 0 w (.agg #[.bool ny,.slice ay ly cy]) y l) (hu : Zm 0 w (.agg #[.bool nu,.slice au lu cu]) u l) (hv : Zm 0 w (.agg #[.bool nv,.slice av lv cv]) v l)
  (h0 : 0 < D) (hn : n ≤ 64) (hkK : k ≤ kw) (hK : l + kw < 1099511600000) :
  Calls Tryz.prog 102 #[.pointer (some ⟨bt,0,none⟩),.slice (some ⟨gr,0,none⟩) n n,.int .i64 (c : Int),.agg #[.bool nx,.slice ax lx cx,.bool ny,.slice ay ly cy,.bool nu,.slice au lu cu,.bool nv,.slice av lv cv]] w (zsH w gr (gs c) n (zyC c u v D (L c) R) (ziC c x y D (L c) R) kw) := by
 obtain ⟨hC,hD,hS⟩ := hT;have hLc := (hS.2.2 c hc).2;obtain ⟨gl,hgl⟩ : ∃ gl,gs c = gl := ⟨_,rfl⟩
 have hline : w.cell? ⟨la,c,none⟩ = some (.slice (some ⟨gl,0,none⟩) n n) := by rw [← hgl];exact hS.lineS hc
 rw [hgl] at hne hLc ⊢;obtain ⟨V0,hV0⟩ : ∃ V0,w.alloc (.cells #[.bool nx,.slice ax lx cx,.bool ny,.slice ay ly cy,.bool nu,.slice au lu cu,.bool nv,.slice av lv cv] 136) = V0 := ⟨_,rfl⟩
 obtain ⟨b0,sz0⟩ := alo1 w (.cells #[.bool nx,.slice ax lx cx,.bool ny,.slice ay ly cy,.bool nu,.slice au lu cu,.bool nv,.slice av lv cv] 136);rw [hV0] at b0 sz0;have hgw := hR.blk;have hlw := hLc.blk;have dB : Cel V0 w.heap.size 136 [.bool nx,.slice ax lx cx,.bool ny,.slice ay ly cy,.bool nu,.slice au lu cu,.bool nv,.slice av lv cv] := by rw [← hV0];exact Cel.new w _ _
 have KS : Hid (∀ wx,zOA (zHG gr gl) V0 wx → Cel wx bt 109 [.bool nd,.slice ad ld cd,.slice (some ⟨la,0,none⟩) n lc] ∧ Zm 0 wx (.agg #[.bool nd,.slice ad ld cd]) D k ∧ Cel wx w.heap.size 136 [.bool nx,.slice ax lx cx,.bool ny,.slice ay ly cy,.bool nu,.slice au lu cu,.bool nv,.slice av lv cv]
   ∧ Zm 0 wx (.agg #[.bool nx,.slice ax lx cx]) x l ∧ Zm 0 wx (.agg #[.bool ny,.slice ay ly cy]) y l ∧ Zm 0 wx (.agg #[.bool nu,.slice au lu cu]) u l ∧ Zm 0 wx (.agg #[.bool nv,.slice av lv cv]) v l) := fun wx htw => by
  have ty := htw.tyS19 (T := 27) (fun b q => by
   rcases q with rfl | rfl
   ·exact (hR.now b0).cel19
   ·exact (hLc.now b0).cel19)
  exact ⟨(hC.step b0).ty13 ty (by decide),(hD.now b0).ty ty (by decide),dB.ty13 ty (by decide),(hx.now b0).ty ty (by decide),(hy.now b0).ty ty (by decide),(hu.now b0).ty ty (by decide),(hv.now b0).ty ty (by decide)⟩
 have H0 : Hid (zrH V0 gr gl n c R (zyC c u v D (L c) R) (L c) (ziC c x y D (L c) R) kw (n - c) (.int .i64 (c : Int)) V0) := ⟨c,rfl,Nat.le_refl _,by omega,rfl,(hR.now b0).congr fun j hj => by
  unfold mx13 zyC
  by_cases q : j < c
  ·rw [if_pos q,if_pos q]
  ·rw [if_neg q],(hLc.now b0).congr fun j hj => by
  unfold mx13 ziC
  by_cases q : j < c
  ·rw [if_pos q,if_pos q]
  ·rw [if_neg q],zOA.refl _ _⟩
 have HKK := hid hK;have HkK := hid hkK;have HD0 := hid h0;have HNE := hid hne;have HGW : Hid (gr < V0.heap.size ∧ gl < V0.heap.size) := ⟨by omega,by omega⟩
 have FIN : Hid (∀ wx,Rw17 wx gr n (mx13 R (zyC c u v D (L c) R) n) kw → Rw17 wx gl n (mx13 (L c) (ziC c x y D (L c) R) n) kw → zOA (zHG gr gl) V0 wx → zsH w gr gl n (zyC c u v D (L c) R) (ziC c x y D (L c) R) kw (.returned (.tuple #[])) wx) := fun wx h1 h2 h3 => ⟨rfl,h1.congr fun j hj => if_pos hj,h2.congr fun j hj => if_pos hj,(zOA.ofBelow b0).trans h3⟩
 have EV0 := hid hV0;have hline0 := cnow b0 hline;have c20 := (hC.step b0).at (i := 2) rfl;rw [← hV0] at hline0 c20;obtain ⟨bx,hbx⟩ : ∃ bx,w.heap.size = bx := ⟨_,rfl⟩
 rw [hbx] at KS;have EBX := hid hbx;have hcn : (c : Int) < (n : Int) := by omega
 obtain ⟨F,hF⟩ : ∃ F,zyC c u v D (L c) R = F := ⟨_,rfl⟩
 obtain ⟨G,hG⟩ : ∃ G,ziC c x y D (L c) R = G := ⟨_,rfl⟩
 have HFj : Hid (∀ j,c ≤ j → F j = (u * L c j + v * (R j % D)) % D) := fun j hj => by rw [← hF];unfold zyC;rw [if_neg (by omega)]
 have HGj : Hid (∀ j,c ≤ j → G j = (x * L c j + y * (R j % D)) % D) := fun j hj => by rw [← hG];unfold ziC;rw [if_neg (by omega)]
 rw [hF,hG] at H0 FIN ⊢;obtain ⟨L0,hL0⟩ : ∃ L0,L c = L0 := ⟨_,rfl⟩
 rw [hL0] at H0 FIN HFj HGj;clear hC hD hS hR hLc hne hx hy hu hv h0 hK hkK b0 sz0 hV0 dB hgw hlw hbx hline hgl hF hG hL0;go_enter Tryz.func102,Tryz.ntmps102;go_wp2_with fail;rw [EV0.out,EBX.out];clear c20 hline0
 go_loopg [9] (n - c) (fun gk s9 wx => zrH V0 gr gl n c R F L0 G kw gk s9 wx)
 case atStart => exact H0.out
 case round =>
  clear H0;obtain ⟨j,rfl,hcj,hjn,hgk,hrw,hlw,htw⟩ := hrel;have RW := hid hrw;have LW := hid hlw;have TW := hid htw;have HG := hid hgk;clear hrw hlw htw hgk
  by_cases hlt : j < n
  ·have hlt' : (j : Int) < (n : Int) := by omega
   obtain ⟨k1,k2,k3,k4,k5,k6,k7⟩ := KS.out _ TW.out;have KC := hid k1;have ZD := hid k2;obtain ⟨nn,an,ln,cn,q0,q1,-,-,zn⟩ := LW.out.at hlt;obtain ⟨nm,am,lm,cm,r0,r1,-,-,zm⟩ := RW.out.at hlt;rw [show mx13 L0 G j j = L0 j from if_neg (by omega)] at zn;rw [show mx13 R F j j = R j from if_neg (by omega)] at zm;have ZN := hid zn;have ZR := hid zm;have HMM : Hid (n - (j + 1) < gk) := by unfold Hid;rw [HG.out];omega
   have hwj := zjA (i := j) (by omega);clear k1 k2 k3 k4 k5 k6 k7 zn zm HG;go_wp2_with fail
   go_cut [10,11] from 20 to 65 (fun s1 s2 wx => Bx19 wr wx s1 s2 (.bool nn) (.slice an ln cn) (R j % D) k)
   case first =>
    have KB : Hid (∀ w',Below wr.heap.size wr w' → w'.cell? ⟨gl,j * 2,none⟩ = some (.bool nn) ∧ w'.cell? ⟨gl,j * 2 + 1,none⟩ = some (.slice an ln cn) ∧ w'.cell? ⟨gr,j * 2,none⟩ = some (.bool nm) ∧ w'.cell? ⟨gr,j * 2 + 1,none⟩ = some (.slice am lm cm)) := fun w' h => ⟨cnow h q0,cnow h q1,cnow h r0,cnow h r1⟩
    refine zFA (fun w' => w'.cell? ⟨gl,j * 2,none⟩ = some (.bool nn) ∧ w'.cell? ⟨gl,j * 2 + 1,none⟩ = some (.slice an ln cn) ∧ w'.cell? ⟨gr,j * 2,none⟩ = some (.bool nm) ∧ w'.cell? ⟨gr,j * 2 + 1,none⟩ = some (.slice am lm cm)) 12 (by kernel_rfl) ?_;obtain ⟨D1,hD⟩ : ∃ D1,wr.drew = D1 := ⟨_,rfl⟩
    have GB : Hid (Below wr.heap.size wr D1) := by unfold Hid;rw [← hD];exact (Below.refl _ _).drew
    rw [hD];clear hD;have GZ : Hid (wr.heap.size ≤ D1.heap.size) := GB.out.size;refine zEA [(0,(.slice (some ⟨gl,0,none⟩) n n)),(1,(.int .i64 (j : Int))),(2,(.pointer (some ⟨gl,j * 2,none⟩))),(3,(.agg #[.bool nn,.slice an ln cn])),(4,(.pointer (some ⟨bt,0,none⟩))),(5,(.slice (some ⟨gr,0,none⟩) n n)),(6,(.int .i64 (j : Int))),(7,(.pointer (some ⟨gr,j * 2,none⟩))),(8,(.agg #[.bool nm,.slice am lm cm]))] 9 ?_ (KB.out _ GB.out) ?_
    ·simp only [zPA,gA9,g09,g19,Act.put,sI9,s09,s19]
     (repeat' (first | exact trivial | refine And.intro (Or.inl ⟨by rfl,?_⟩) ?_)) <;> (intro w hSw;(try dsimp only at hSw);go_simp)
    simp only [actV,gA9,g09,g19,Act.put,sI9,s09,s19];refine zvA (i := 9) (j := 10) (l := 11) (oi := ⟨some 35,.call { callee := .value (.func 76),args := #[.tmp 30,.tmp 34],argTypes := #[80,27] },27, "triangle.go:67",#[⟨4,.data⟩,⟨8,.data⟩],none⟩) (oj := ⟨some 10,.alloc 27,0, "triangle.go:67",#[],none⟩) (ol := ⟨some 11,.alloc 27,0, "triangle.go:67",#[],none⟩) (by kernel_rfl) rfl rfl rfl (fun K hK => ?_) (fun K hK => ?_) (fun K hK => ?_)
    ·skip
     go_simp;go_at_call 76;refine (zgC (KC.out.step GB.out) (ZD.out.now GB.out) (ZR.out.now GB.out).zi HD0.out (by have := HKK.out;have := HkK.out;omega) (by have := HKK.out;omega)).mono ?_;rintro e w2 ⟨rq,rfl,mq,b⟩;have lz2 := (show Below _ _ _ from b).size;replace GB := hid (below_step GB.out b);have MQ := hid mq;obtain ⟨nq,xq,aq,cq,rfl⟩ := mq.parts;clear mq;replace GZ : Hid (wr.heap.size ≤ w2.heap.size) := GB.out.size;clear b;refine hK.out _ _ (fun _ => KB.out _ GB.out) ?_;clear hK;refine zMA (i := 10) (j := 11) (oi := ⟨some 10,.alloc 27,0, "triangle.go:67",#[],none⟩) (oj := ⟨some 11,.alloc 27,0, "triangle.go:67",#[],none⟩) (by kernel_rfl) rfl rfl (fun K hK => ?_) (fun K hK => ?_)
     ·skip
      go_simp;obtain ⟨V3,hW⟩ : ∃ V3,w2.alloc zbox = V3 := ⟨_,rfl⟩
      obtain ⟨b,sz3⟩ := alo1 w2 zbox;rw [hW] at b sz3;replace GB := hid (below_step GB.out b);have DP : Hid (Duo V3 w2.heap.size (.bool false) (.slice none 0 0)) := by unfold Hid;rw [← hW];exact Duo.new w2 _ _
      have SP := hid (show wr.heap.size ≤ w2.heap.size from GZ.out);replace GZ : Hid (wr.heap.size ≤ V3.heap.size) := GB.out.size;replace MQ := hid (MQ.out.now b);clear sz3;rw [hW];clear hW b;refine hK.out _ _ (fun _ => KB.out _ GB.out) ?_;clear hK
      try simp only [Act.put]
      refine zAA (i := 11) (o := ⟨some 11,.alloc 27,0, "triangle.go:67",#[],none⟩) (by kernel_rfl) rfl (fun K hK => ?_);go_simp;obtain ⟨V4,hW⟩ : ∃ V4,V3.alloc zbox = V4 := ⟨_,rfl⟩
      obtain ⟨b,sz4⟩ := alo1 V3 zbox;rw [hW] at b sz4;replace GB := hid (below_step GB.out b);have DT : Hid (Duo V4 V3.heap.size (.bool false) (.slice none 0 0)) := by unfold Hid;rw [← hW];exact Duo.new V3 _ _
      have ST := hid (show wr.heap.size ≤ V3.heap.size from GZ.out);replace GZ : Hid (wr.heap.size ≤ V4.heap.size) := GB.out.size;have NE : Hid (w2.heap.size ≠ V3.heap.size) := by unfold Hid;have := DP.out.blk;omega
      replace DP := hid (DP.out.step b);replace MQ := hid (MQ.out.now b);clear sz4;rw [hW];clear hW b;refine hK.out _ _ (fun _ => KB.out _ GB.out) ?_;clear hK
      try simp only [Act.put]
      refine zAA (i := 12) (o := ⟨none,.store 27 (.tmp 10) (.tmp 29),0, "triangle.go:67",#[⟨10,.data⟩,⟨3,.data⟩,⟨9,.chain⟩,⟨0,.phase⟩,⟨1,.phase⟩,⟨2,.phase⟩,⟨3,.phase⟩,⟨4,.textOnly .lateStores⟩,⟨5,.textOnly .lateStores⟩,⟨6,.textOnly .lateStores⟩,⟨7,.textOnly .lateStores⟩,⟨8,.textOnly .lateStores⟩,⟨9,.textOnly .lateStoresUnsure⟩,⟨10,.phase⟩,⟨11,.phase⟩],none⟩) (by kernel_rfl) rfl (fun K hK => ?_);have e0 := DP.out.c0;have e1 := DP.out.c1;have e2 := DP.out.fz 0;have e3 := DP.out.fz 1;go_simp;clear e0 e1 e2 e3;obtain ⟨V5,hW⟩ : ∃ V5,((V4.setCell ⟨w2.heap.size,0,none⟩ (.bool nn)).setCell ⟨w2.heap.size,1,none⟩ (.slice an ln cn)) = V5 := ⟨_,rfl⟩
      replace GB : Hid (Below wr.heap.size wr V5) := by unfold Hid;rw [← hW];exact bset (bset GB.out SP.out) SP.out
      have QP : Hid (Duo V5 w2.heap.size (.bool nn) (.slice an ln cn)) := by unfold Hid;rw [← hW];exact DP.out.set _ _
      replace MQ : Hid (Zm 0 V5 (.agg #[.bool nq,.slice aq xq.length cq]) (R j % D) k) := by unfold Hid;rw [← hW];exact MQ.out.ty (DP.out.ty13 _ _) (by decide)
      replace DT : Hid (Duo V5 V3.heap.size (.bool false) (.slice none 0 0)) := by unfold Hid;rw [← hW];exact DT.out.box (by have := NE.out;omega) _ _
      clear DP;rw [hW];clear hW;refine hK.out _ _ (fun h => absurd h (by decide)) ?_;clear hK
      try simp only [Act.put]
      refine zAA (i := 13) (o := ⟨none,.store 27 (.tmp 11) (.tmp 35),0, "triangle.go:67",#[⟨11,.data⟩,⟨9,.data⟩,⟨12,.chain⟩,⟨0,.phase⟩,⟨1,.phase⟩,⟨2,.phase⟩,⟨3,.phase⟩,⟨4,.phase⟩,⟨5,.phase⟩,⟨6,.phase⟩,⟨7,.phase⟩,⟨8,.phase⟩,⟨9,.phase⟩,⟨10,.phase⟩,⟨11,.phase⟩,⟨12,.phase⟩],none⟩) (by kernel_rfl) rfl (fun K hK => ?_);have e0 := DT.out.c0;have e1 := DT.out.c1;have e2 := DT.out.fz 0;have e3 := DT.out.fz 1;go_simp;clear e0 e1 e2 e3;obtain ⟨V6,hW⟩ : ∃ V6,((V5.setCell ⟨V3.heap.size,0,none⟩ (.bool nq)).setCell ⟨V3.heap.size,1,none⟩ (.slice aq xq.length cq)) = V6 := ⟨_,rfl⟩
      replace GB : Hid (Below wr.heap.size wr V6) := by unfold Hid;rw [← hW];exact bset (bset GB.out ST.out) ST.out
      have QT : Hid (Duo V6 V3.heap.size (.bool nq) (.slice aq xq.length cq)) := by unfold Hid;rw [← hW];exact DT.out.set _ _
      replace MQ : Hid (Zm 0 V6 (.agg #[.bool nq,.slice aq xq.length cq]) (R j % D) k) := by unfold Hid;rw [← hW];exact MQ.out.ty (DT.out.ty13 _ _) (by decide)
      replace QP : Hid (Duo V6 w2.heap.size (.bool nn) (.slice an ln cn)) := by unfold Hid;rw [← hW];exact QP.out.box (by have := NE.out;omega) _ _
      clear DT;rw [hW];clear hW;refine hK.out _ _ (fun h => absurd h (by decide)) ?_;clear hK
      try simp only [Act.put]
      refine zCA (by kernel_rfl) ?_ _;have FN4 : Hid (Bx19 wr V6 (.pointer (some ⟨w2.heap.size,0,none⟩)) (.pointer (some ⟨V3.heap.size,0,none⟩)) (.bool nn) (.slice an ln cn) (R j % D) k) := ⟨_,_,nq,xq,aq,cq,rfl,rfl,SP.out,ST.out,by have := NE.out;omega,QP.out,QT.out,MQ.out,GB.out⟩
      clear GB GZ QP QT SP ST NE MQ;go_wp2_with fail;go_meet;exact FN4.out
     ·skip
      go_simp;obtain ⟨V7,hW⟩ : ∃ V7,w2.alloc zbox = V7 := ⟨_,rfl⟩
      obtain ⟨b,sz7⟩ := alo1 w2 zbox;rw [hW] at b sz7;replace GB := hid (below_step GB.out b);have DT : Hid (Duo V7 w2.heap.size (.bool false) (.slice none 0 0)) := by unfold Hid;rw [← hW];exact Duo.new w2 _ _
      have ST := hid (show wr.heap.size ≤ w2.heap.size from GZ.out);replace GZ : Hid (wr.heap.size ≤ V7.heap.size) := GB.out.size;replace MQ := hid (MQ.out.now b);clear sz7;rw [hW];clear hW b;refine hK.out _ _ (fun _ => KB.out _ GB.out) ?_;clear hK
      try simp only [Act.put]
      refine zAA (i := 10) (o := ⟨some 10,.alloc 27,0, "triangle.go:67",#[],none⟩) (by kernel_rfl) rfl (fun K hK => ?_);go_simp;obtain ⟨V8,hW⟩ : ∃ V8,V7.alloc zbox = V8 := ⟨_,rfl⟩
      obtain ⟨b,sz8⟩ := alo1 V7 zbox;rw [hW] at b sz8;replace GB := hid (below_step GB.out b);have DP : Hid (Duo V8 V7.heap.size (.bool false) (.slice none 0 0)) := by unfold Hid;rw [← hW];exact Duo.new V7 _ _
      have SP := hid (show wr.heap.size ≤ V7.heap.size from GZ.out);replace GZ : Hid (wr.heap.size ≤ V8.heap.size) := GB.out.size;have NE : Hid (w2.heap.size ≠ V7.heap.size) := by unfold Hid;have := DT.out.blk;omega
      replace DT := hid (DT.out.step b);replace MQ := hid (MQ.out.now b);clear sz8;rw [hW];clear hW b;refine hK.out _ _ (fun _ => KB.out _ GB.out) ?_;clear hK
      try simp only [Act.put]
      refine zAA (i := 12) (o := ⟨none,.store 27 (.tmp 10) (.tmp 29),0, "triangle.go:67",#[⟨10,.data⟩,⟨3,.data⟩,⟨9,.chain⟩,⟨0,.phase⟩,⟨1,.phase⟩,⟨2,.phase⟩,⟨3,.phase⟩,⟨4,.textOnly .lateStores⟩,⟨5,.textOnly .lateStores⟩,⟨6,.textOnly .lateStores⟩,⟨7,.textOnly .lateStores⟩,⟨8,.textOnly .lateStores⟩,⟨9,.textOnly .lateStoresUnsure⟩,⟨10,.phase⟩,⟨11,.phase⟩],none⟩) (by kernel_rfl) rfl (fun K hK => ?_);have e0 := DP.out.c0;have e1 := DP.out.c1;have e2 := DP.out.fz 0;have e3 := DP.out.fz 1;go_simp;clear e0 e1 e2 e3;obtain ⟨V9,hW⟩ : ∃ V9,((V8.setCell ⟨V7.heap.size,0,none⟩ (.bool nn)).setCell ⟨V7.heap.size,1,none⟩ (.slice an ln cn)) = V9 := ⟨_,rfl⟩
      replace GB : Hid (Below wr.heap.size wr V9) := by unfold Hid;rw [← hW];exact bset (bset GB.out SP.out) SP.out
      have QP : Hid (Duo V9 V7.heap.size (.bool nn) (.slice an ln cn)) := by unfold Hid;rw [← hW];exact DP.out.set _ _
      replace MQ : Hid (Zm 0 V9 (.agg #[.bool nq,.slice aq xq.length cq]) (R j % D) k) := by unfold Hid;rw [← hW];exact MQ.out.ty (DP.out.ty13 _ _) (by decide)
      replace DT : Hid (Duo V9 w2.heap.size (.bool false) (.slice none 0 0)) := by unfold Hid;rw [← hW];exact DT.out.box (by have := NE.out;omega) _ _
      clear DP;rw [hW];clear hW;refine hK.out _ _ (fun h => absurd h (by decide)) ?_;clear hK
      try simp only [Act.put]
      refine zAA (i := 13) (o := ⟨none,.store 27 (.tmp 11) (.tmp 35),0, "triangle.go:67",#[⟨11,.data⟩,⟨9,.data⟩,⟨12,.chain⟩,⟨0,.phase⟩,⟨1,.phase⟩,⟨2,.phase⟩,⟨3,.phase⟩,⟨4,.phase⟩,⟨5,.phase⟩,⟨6,.phase⟩,⟨7,.phase⟩,⟨8,.phase⟩,⟨9,.phase⟩,⟨10,.phase⟩,⟨11,.phase⟩,⟨12,.phase⟩],none⟩) (by kernel_rfl) rfl (fun K hK => ?_);have e0 := DT.out.c0;have e1 := DT.out.c1;have e2 := DT.out.fz 0;have e3 := DT.out.fz 1;go_simp;clear e0 e1 e2 e3;obtain ⟨V10,hW⟩ : ∃ V10,((V9.setCell ⟨w2.heap.size,0,none⟩ (.bool nq)).setCell ⟨w2.heap.size,1,none⟩ (.slice aq xq.length cq)) = V10 := ⟨_,rfl⟩
      replace GB : Hid (Below wr.heap.size wr V10) := by unfold Hid;rw [← hW];exact bset (bset GB.out ST.out) ST.out
      have QT : Hid (Duo V10 w2.heap.size (.bool nq) (.slice aq xq.length cq)) := by unfold Hid;rw [← hW];exact DT.out.set _ _
      replace MQ : Hid (Zm 0 V10 (.agg #[.bool nq,.slice aq xq.length cq]) (R j % D) k) := by unfold Hid;rw [← hW];exact MQ.out.ty (DT.out.ty13 _ _) (by decide)
      replace QP : Hid (Duo V10 V7.heap.size (.bool nn) (.slice an ln cn)) := by unfold Hid;rw [← hW];exact QP.out.box (by have := NE.out;omega) _ _
      clear DT;rw [hW];clear hW;refine hK.out _ _ (fun h => absurd h (by decide)) ?_;clear hK
      try simp only [Act.put]
      refine zCA (by kernel_rfl) ?_ _;have FN4 : Hid (Bx19 wr V10 (.pointer (some ⟨V7.heap.size,0,none⟩)) (.pointer (some ⟨w2.heap.size,0,none⟩)) (.bool nn) (.slice an ln cn) (R j % D) k) := ⟨_,_,nq,xq,aq,cq,rfl,rfl,SP.out,ST.out,by have := NE.out;omega,QP.out,QT.out,MQ.out,GB.out⟩
      clear GB GZ QP QT SP ST NE MQ;go_wp2_with fail;go_meet;exact FN4.out
    ·skip
     go_simp;obtain ⟨V11,hW⟩ : ∃ V11,D1.alloc zbox = V11 := ⟨_,rfl⟩
     obtain ⟨b,sz11⟩ := alo1 D1 zbox;rw [hW] at b sz11;replace GB := hid (below_step GB.out b);have DP : Hid (Duo V11 D1.heap.size (.bool false) (.slice none 0 0)) := by unfold Hid;rw [← hW];exact Duo.new D1 _ _
     have SP := hid (show wr.heap.size ≤ D1.heap.size from GZ.out);replace GZ : Hid (wr.heap.size ≤ V11.heap.size) := GB.out.size;clear sz11;rw [hW];clear hW b;refine hK.out _ _ (fun _ => KB.out _ GB.out) ?_;clear hK
     try simp only [Act.put]
     refine zMA (i := 9) (j := 11) (oi := ⟨some 35,.call { callee := .value (.func 76),args := #[.tmp 30,.tmp 34],argTypes := #[80,27] },27, "triangle.go:67",#[⟨4,.data⟩,⟨8,.data⟩],none⟩) (oj := ⟨some 11,.alloc 27,0, "triangle.go:67",#[],none⟩) (by kernel_rfl) rfl rfl (fun K hK => ?_) (fun K hK => ?_)
     ·skip
      go_simp;go_at_call 76;refine (zgC (KC.out.step GB.out) (ZD.out.now GB.out) (ZR.out.now GB.out).zi HD0.out (by have := HKK.out;have := HkK.out;omega) (by have := HKK.out;omega)).mono ?_;rintro e w12 ⟨rq,rfl,mq,b⟩;have lz12 := (show Below _ _ _ from b).size;replace GB := hid (below_step GB.out b);have MQ := hid mq;obtain ⟨nq,xq,aq,cq,rfl⟩ := mq.parts;clear mq;replace GZ : Hid (wr.heap.size ≤ w12.heap.size) := GB.out.size;replace DP := hid (DP.out.step b);clear b;refine hK.out _ _ (fun _ => KB.out _ GB.out) ?_;clear hK;refine zAA (i := 11) (o := ⟨some 11,.alloc 27,0, "triangle.go:67",#[],none⟩) (by kernel_rfl) rfl (fun K hK => ?_);go_simp;obtain ⟨V13,hW⟩ : ∃ V13,w12.alloc zbox = V13 := ⟨_,rfl⟩
      obtain ⟨b,sz13⟩ := alo1 w12 zbox;rw [hW] at b sz13;replace GB := hid (below_step GB.out b);have DT : Hid (Duo V13 w12.heap.size (.bool false) (.slice none 0 0)) := by unfold Hid;rw [← hW];exact Duo.new w12 _ _
      have ST := hid (show wr.heap.size ≤ w12.heap.size from GZ.out);replace GZ : Hid (wr.heap.size ≤ V13.heap.size) := GB.out.size;have NE : Hid (D1.heap.size ≠ w12.heap.size) := by unfold Hid;have := DP.out.blk;omega
      replace DP := hid (DP.out.step b);replace MQ := hid (MQ.out.now b);clear sz13;rw [hW];clear hW b;refine hK.out _ _ (fun _ => KB.out _ GB.out) ?_;clear hK
      try simp only [Act.put]
      refine zAA (i := 12) (o := ⟨none,.store 27 (.tmp 10) (.tmp 29),0, "triangle.go:67",#[⟨10,.data⟩,⟨3,.data⟩,⟨9,.chain⟩,⟨0,.phase⟩,⟨1,.phase⟩,⟨2,.phase⟩,⟨3,.phase⟩,⟨4,.textOnly .lateStores⟩,⟨5,.textOnly .lateStores⟩,⟨6,.textOnly .lateStores⟩,⟨7,.textOnly .lateStores⟩,⟨8,.textOnly .lateStores⟩,⟨9,.textOnly .lateStoresUnsure⟩,⟨10,.phase⟩,⟨11,.phase⟩],none⟩) (by kernel_rfl) rfl (fun K hK => ?_);have e0 := DP.out.c0;have e1 := DP.out.c1;have e2 := DP.out.fz 0;have e3 := DP.out.fz 1;go_simp;clear e0 e1 e2 e3;obtain ⟨V14,hW⟩ : ∃ V14,((V13.setCell ⟨D1.heap.size,0,none⟩ (.bool nn)).setCell ⟨D1.heap.size,1,none⟩ (.slice an ln cn)) = V14 := ⟨_,rfl⟩
      replace GB : Hid (Below wr.heap.size wr V14) := by unfold Hid;rw [← hW];exact bset (bset GB.out SP.out) SP.out
      have QP : Hid (Duo V14 D1.heap.size (.bool nn) (.slice an ln cn)) := by unfold Hid;rw [← hW];exact DP.out.set _ _
      replace MQ : Hid (Zm 0 V14 (.agg #[.bool nq,.slice aq xq.length cq]) (R j % D) k) := by unfold Hid;rw [← hW];exact MQ.out.ty (DP.out.ty13 _ _) (by decide)
      replace DT : Hid (Duo V14 w12.heap.size (.bool false) (.slice none 0 0)) := by unfold Hid;rw [← hW];exact DT.out.box (by have := NE.out;omega) _ _
      clear DP;rw [hW];clear hW;refine hK.out _ _ (fun h => absurd h (by decide)) ?_;clear hK
      try simp only [Act.put]
      refine zAA (i := 13) (o := ⟨none,.store 27 (.tmp 11) (.tmp 35),0, "triangle.go:67",#[⟨11,.data⟩,⟨9,.data⟩,⟨12,.chain⟩,⟨0,.phase⟩,⟨1,.phase⟩,⟨2,.phase⟩,⟨3,.phase⟩,⟨4,.phase⟩,⟨5,.phase⟩,⟨6,.phase⟩,⟨7,.phase⟩,⟨8,.phase⟩,⟨9,.phase⟩,⟨10,.phase⟩,⟨11,.phase⟩,⟨12,.phase⟩],none⟩) (by kernel_rfl) rfl (fun K hK => ?_);have e0 := DT.out.c0;have e1 := DT.out.c1;have e2 := DT.out.fz 0;have e3 := DT.out.fz 1;go_simp;clear e0 e1 e2 e3;obtain ⟨V15,hW⟩ : ∃ V15,((V14.setCell ⟨w12.heap.size,0,none⟩ (.bool nq)).setCell ⟨w12.heap.size,1,none⟩ (.slice aq xq.length cq)) = V15 := ⟨_,rfl⟩
      replace GB : Hid (Below wr.heap.size wr V15) := by unfold Hid;rw [← hW];exact bset (bset GB.out ST.out) ST.out
      have QT : Hid (Duo V15 w12.heap.size (.bool nq) (.slice aq xq.length cq)) := by unfold Hid;rw [← hW];exact DT.out.set _ _
      replace MQ : Hid (Zm 0 V15 (.agg #[.bool nq,.slice aq xq.length cq]) (R j % D) k) := by unfold Hid;rw [← hW];exact MQ.out.ty (DT.out.ty13 _ _) (by decide)
      replace QP : Hid (Duo V15 D1.heap.size (.bool nn) (.slice an ln cn)) := by unfold Hid;rw [← hW];exact QP.out.box (by have := NE.out;omega) _ _
      clear DT;rw [hW];clear hW;refine hK.out _ _ (fun h => absurd h (by decide)) ?_;clear hK
      try simp only [Act.put]
      refine zCA (by kernel_rfl) ?_ _;have FN4 : Hid (Bx19 wr V15 (.pointer (some ⟨D1.heap.size,0,none⟩)) (.pointer (some ⟨w12.heap.size,0,none⟩)) (.bool nn) (.slice an ln cn) (R j % D) k) := ⟨_,_,nq,xq,aq,cq,rfl,rfl,SP.out,ST.out,by have := NE.out;omega,QP.out,QT.out,MQ.out,GB.out⟩
      clear GB GZ QP QT SP ST NE MQ;go_wp2_with fail;go_meet;exact FN4.out
     ·skip
      go_simp;obtain ⟨V16,hW⟩ : ∃ V16,V11.alloc zbox = V16 := ⟨_,rfl⟩
      obtain ⟨b,sz16⟩ := alo1 V11 zbox;rw [hW] at b sz16;replace GB := hid (below_step GB.out b);have DT : Hid (Duo V16 V11.heap.size (.bool false) (.slice none 0 0)) := by unfold Hid;rw [← hW];exact Duo.new V11 _ _
      have ST := hid (show wr.heap.size ≤ V11.heap.size from GZ.out);replace GZ : Hid (wr.heap.size ≤ V16.heap.size) := GB.out.size;have NE : Hid (D1.heap.size ≠ V11.heap.size) := by unfold Hid;have := DP.out.blk;omega
      replace DP := hid (DP.out.step b);clear sz16;rw [hW];clear hW b;refine hK.out _ _ (fun _ => KB.out _ GB.out) ?_;clear hK
      try simp only [Act.put]
      refine zAA (i := 9) (o := ⟨some 35,.call { callee := .value (.func 76),args := #[.tmp 30,.tmp 34],argTypes := #[80,27] },27, "triangle.go:67",#[⟨4,.data⟩,⟨8,.data⟩],none⟩) (by kernel_rfl) rfl (fun K hK => ?_);go_simp;go_at_call 76;refine (zgC (KC.out.step GB.out) (ZD.out.now GB.out) (ZR.out.now GB.out).zi HD0.out (by have := HKK.out;have := HkK.out;omega) (by have := HKK.out;omega)).mono ?_;rintro e w17 ⟨rq,rfl,mq,b⟩;have lz17 := (show Below _ _ _ from b).size;replace GB := hid (below_step GB.out b);have MQ := hid mq;obtain ⟨nq,xq,aq,cq,rfl⟩ := mq.parts;clear mq;replace GZ : Hid (wr.heap.size ≤ w17.heap.size) := GB.out.size;replace DP := hid (DP.out.step b);replace DT := hid (DT.out.step b);clear b;refine hK.out _ _ (fun _ => KB.out _ GB.out) ?_;clear hK;refine zAA (i := 12) (o := ⟨none,.store 27 (.tmp 10) (.tmp 29),0, "triangle.go:67",#[⟨10,.data⟩,⟨3,.data⟩,⟨9,.chain⟩,⟨0,.phase⟩,⟨1,.phase⟩,⟨2,.phase⟩,⟨3,.phase⟩,⟨4,.textOnly .lateStores⟩,⟨5,.textOnly .lateStores⟩,⟨6,.textOnly .lateStores⟩,⟨7,.textOnly .lateStores⟩,⟨8,.textOnly .lateStores⟩,⟨9,.textOnly .lateStoresUnsure⟩,⟨10,.phase⟩,⟨11,.phase⟩],none⟩) (by kernel_rfl) rfl (fun K hK => ?_);have e0 := DP.out.c0;have e1 := DP.out.c1;have e2 := DP.out.fz 0;have e3 := DP.out.fz 1;go_simp;clear e0 e1 e2 e3;obtain ⟨V18,hW⟩ : ∃ V18,((w17.setCell ⟨D1.heap.size,0,none⟩ (.bool nn)).setCell ⟨D1.heap.size,1,none⟩ (.slice an ln cn)) = V18 := ⟨_,rfl⟩
      replace GB : Hid (Below wr.heap.size wr V18) := by unfold Hid;rw [← hW];exact bset (bset GB.out SP.out) SP.out
      have QP : Hid (Duo V18 D1.heap.size (.bool nn) (.slice an ln cn)) := by unfold Hid;rw [← hW];exact DP.out.set _ _
      replace MQ : Hid (Zm 0 V18 (.agg #[.bool nq,.slice aq xq.length cq]) (R j % D) k) := by unfold Hid;rw [← hW];exact MQ.out.ty (DP.out.ty13 _ _) (by decide)
      replace DT : Hid (Duo V18 V11.heap.size (.bool false) (.slice none 0 0)) := by unfold Hid;rw [← hW];exact DT.out.box (by have := NE.out;omega) _ _
      clear DP;rw [hW];clear hW;refine hK.out _ _ (fun h => absurd h (by decide)) ?_;clear hK
      try simp only [Act.put]
      refine zAA (i := 13) (o := ⟨none,.store 27 (.tmp 11) (.tmp 35),0, "triangle.go:67",#[⟨11,.data⟩,⟨9,.data⟩,⟨12,.chain⟩,⟨0,.phase⟩,⟨1,.phase⟩,⟨2,.phase⟩,⟨3,.phase⟩,⟨4,.phase⟩,⟨5,.phase⟩,⟨6,.phase⟩,⟨7,.phase⟩,⟨8,.phase⟩,⟨9,.phase⟩,⟨10,.phase⟩,⟨11,.phase⟩,⟨12,.phase⟩],none⟩) (by kernel_rfl) rfl (fun K hK => ?_);have e0 := DT.out.c0;have e1 := DT.out.c1;have e2 := DT.out.fz 0;have e3 := DT.out.fz 1;go_simp;clear e0 e1 e2 e3;obtain ⟨V19,hW⟩ : ∃ V19,((V18.setCell ⟨V11.heap.size,0,none⟩ (.bool nq)).setCell ⟨V11.heap.size,1,none⟩ (.slice aq xq.length cq)) = V19 := ⟨_,rfl⟩
      replace GB : Hid (Below wr.heap.size wr V19) := by unfold Hid;rw [← hW];exact bset (bset GB.out ST.out) ST.out
      have QT : Hid (Duo V19 V11.heap.size (.bool nq) (.slice aq xq.length cq)) := by unfold Hid;rw [← hW];exact DT.out.set _ _
      replace MQ : Hid (Zm 0 V19 (.agg #[.bool nq,.slice aq xq.length cq]) (R j % D) k) := by unfold Hid;rw [← hW];exact MQ.out.ty (DT.out.ty13 _ _) (by decide)
      replace QP : Hid (Duo V19 D1.heap.size (.bool nn) (.slice an ln cn)) := by unfold Hid;rw [← hW];exact QP.out.box (by have := NE.out;omega) _ _
      clear DT;rw [hW];clear hW;refine hK.out _ _ (fun h => absurd h (by decide)) ?_;clear hK
      try simp only [Act.put]
      refine zCA (by kernel_rfl) ?_ _;have FN4 : Hid (Bx19 wr V19 (.pointer (some ⟨D1.heap.size,0,none⟩)) (.pointer (some ⟨V11.heap.size,0,none⟩)) (.bool nn) (.slice an ln cn) (R j % D) k) := ⟨_,_,nq,xq,aq,cq,rfl,rfl,SP.out,ST.out,by have := NE.out;omega,QP.out,QT.out,MQ.out,GB.out⟩
      clear GB GZ QP QT SP ST NE MQ;go_wp2_with fail;go_meet;exact FN4.out
    ·skip
     go_simp;obtain ⟨V20,hW⟩ : ∃ V20,D1.alloc zbox = V20 := ⟨_,rfl⟩
     obtain ⟨b,sz20⟩ := alo1 D1 zbox;rw [hW] at b sz20;replace GB := hid (below_step GB.out b);have DT : Hid (Duo V20 D1.heap.size (.bool false) (.slice none 0 0)) := by unfold Hid;rw [← hW];exact Duo.new D1 _ _
     have ST := hid (show wr.heap.size ≤ D1.heap.size from GZ.out);replace GZ : Hid (wr.heap.size ≤ V20.heap.size) := GB.out.size;clear sz20;rw [hW];clear hW b;refine hK.out _ _ (fun _ => KB.out _ GB.out) ?_;clear hK
     try simp only [Act.put]
     refine zMA (i := 9) (j := 10) (oi := ⟨some 35,.call { callee := .value (.func 76),args := #[.tmp 30,.tmp 34],argTypes := #[80,27] },27, "triangle.go:67",#[⟨4,.data⟩,⟨8,.data⟩],none⟩) (oj := ⟨some 10,.alloc 27,0, "triangle.go:67",#[],none⟩) (by kernel_rfl) rfl rfl (fun K hK => ?_) (fun K hK => ?_)
     ·skip
      go_simp;go_at_call 76;refine (zgC (KC.out.step GB.out) (ZD.out.now GB.out) (ZR.out.now GB.out).zi HD0.out (by have := HKK.out;have := HkK.out;omega) (by have := HKK.out;omega)).mono ?_;rintro e w21 ⟨rq,rfl,mq,b⟩;have lz21 := (show Below _ _ _ from b).size;replace GB := hid (below_step GB.out b);have MQ := hid mq;obtain ⟨nq,xq,aq,cq,rfl⟩ := mq.parts;clear mq;replace GZ : Hid (wr.heap.size ≤ w21.heap.size) := GB.out.size;replace DT := hid (DT.out.step b);clear b;refine hK.out _ _ (fun _ => KB.out _ GB.out) ?_;clear hK;refine zAA (i := 10) (o := ⟨some 10,.alloc 27,0, "triangle.go:67",#[],none⟩) (by kernel_rfl) rfl (fun K hK => ?_);go_simp;obtain ⟨V22,hW⟩ : ∃ V22,w21.alloc zbox = V22 := ⟨_,rfl⟩
      obtain ⟨b,sz22⟩ := alo1 w21 zbox;rw [hW] at b sz22;replace GB := hid (below_step GB.out b);have DP : Hid (Duo V22 w21.heap.size (.bool false) (.slice none 0 0)) := by unfold Hid;rw [← hW];exact Duo.new w21 _ _
      have SP := hid (show wr.heap.size ≤ w21.heap.size from GZ.out);replace GZ : Hid (wr.heap.size ≤ V22.heap.size) := GB.out.size;have NE : Hid (D1.heap.size ≠ w21.heap.size) := by unfold Hid;have := DT.out.blk;omega
      replace DT := hid (DT.out.step b);replace MQ := hid (MQ.out.now b);clear sz22;rw [hW];clear hW b;refine hK.out _ _ (fun _ => KB.out _ GB.out) ?_;clear hK
      try simp only [Act.put]
      refine zAA (i := 12) (o := ⟨none,.store 27 (.tmp 10) (.tmp 29),0, "triangle.go:67",#[⟨10,.data⟩,⟨3,.data⟩,⟨9,.chain⟩,⟨0,.phase⟩,⟨1,.phase⟩,⟨2,.phase⟩,⟨3,.phase⟩,⟨4,.textOnly .lateStores⟩,⟨5,.textOnly .lateStores⟩,⟨6,.textOnly .lateStores⟩,⟨7,.textOnly .lateStores⟩,⟨8,.textOnly .lateStores⟩,⟨9,.textOnly .lateStoresUnsure⟩,⟨10,.phase⟩,⟨11,.phase⟩],none⟩) (by kernel_rfl) rfl (fun K hK => ?_);have e0 := DP.out.c0;have e1 := DP.out.c1;have e2 := DP.out.fz 0;have e3 := DP.out.fz 1;go_simp;clear e0 e1 e2 e3;obtain ⟨V23,hW⟩ : ∃ V23,((V22.setCell ⟨w21.heap.size,0,none⟩ (.bool nn)).setCell ⟨w21.heap.size,1,none⟩ (.slice an ln cn)) = V23 := ⟨_,rfl⟩
      replace GB : Hid (Below wr.heap.size wr V23) := by unfold Hid;rw [← hW];exact bset (bset GB.out SP.out) SP.out
      have QP : Hid (Duo V23 w21.heap.size (.bool nn) (.slice an ln cn)) := by unfold Hid;rw [← hW];exact DP.out.set _ _
      replace MQ : Hid (Zm 0 V23 (.agg #[.bool nq,.slice aq xq.length cq]) (R j % D) k) := by unfold Hid;rw [← hW];exact MQ.out.ty (DP.out.ty13 _ _) (by decide)
      replace DT : Hid (Duo V23 D1.heap.size (.bool false) (.slice none 0 0)) := by unfold Hid;rw [← hW];exact DT.out.box (by have := NE.out;omega) _ _
      clear DP;rw [hW];clear hW;refine hK.out _ _ (fun h => absurd h (by decide)) ?_;clear hK
      try simp only [Act.put]
      refine zAA (i := 13) (o := ⟨none,.store 27 (.tmp 11) (.tmp 35),0, "triangle.go:67",#[⟨11,.data⟩,⟨9,.data⟩,⟨12,.chain⟩,⟨0,.phase⟩,⟨1,.phase⟩,⟨2,.phase⟩,⟨3,.phase⟩,⟨4,.phase⟩,⟨5,.phase⟩,⟨6,.phase⟩,⟨7,.phase⟩,⟨8,.phase⟩,⟨9,.phase⟩,⟨10,.phase⟩,⟨11,.phase⟩,⟨12,.phase⟩],none⟩) (by kernel_rfl) rfl (fun K hK => ?_);have e0 := DT.out.c0;have e1 := DT.out.c1;have e2 := DT.out.fz 0;have e3 := DT.out.fz 1;go_simp;clear e0 e1 e2 e3;obtain ⟨V24,hW⟩ : ∃ V24,((V23.setCell ⟨D1.heap.size,0,none⟩ (.bool nq)).setCell ⟨D1.heap.size,1,none⟩ (.slice aq xq.length cq)) = V24 := ⟨_,rfl⟩
      replace GB : Hid (Below wr.heap.size wr V24) := by unfold Hid;rw [← hW];exact bset (bset GB.out ST.out) ST.out
      have QT : Hid (Duo V24 D1.heap.size (.bool nq) (.slice aq xq.length cq)) := by unfold Hid;rw [← hW];exact DT.out.set _ _
      replace MQ : Hid (Zm 0 V24 (.agg #[.bool nq,.slice aq xq.length cq]) (R j % D) k) := by unfold Hid;rw [← hW];exact MQ.out.ty (DT.out.ty13 _ _) (by decide)
      replace QP : Hid (Duo V24 w21.heap.size (.bool nn) (.slice an ln cn)) := by unfold Hid;rw [← hW];exact QP.out.box (by have := NE.out;omega) _ _
      clear DT;rw [hW];clear hW;refine hK.out _ _ (fun h => absurd h (by decide)) ?_;clear hK
      try simp only [Act.put]
      refine zCA (by kernel_rfl) ?_ _;have FN4 : Hid (Bx19 wr V24 (.pointer (some ⟨w21.heap.size,0,none⟩)) (.pointer (some ⟨D1.heap.size,0,none⟩)) (.bool nn) (.slice an ln cn) (R j % D) k) := ⟨_,_,nq,xq,aq,cq,rfl,rfl,SP.out,ST.out,by have := NE.out;omega,QP.out,QT.out,MQ.out,GB.out⟩
      clear GB GZ QP QT SP ST NE MQ;go_wp2_with fail;go_meet;exact FN4.out
     ·skip
      go_simp;obtain ⟨V25,hW⟩ : ∃ V25,V20.alloc zbox = V25 := ⟨_,rfl⟩
      obtain ⟨b,sz25⟩ := alo1 V20 zbox;rw [hW] at b sz25;replace GB := hid (below_step GB.out b);have DP : Hid (Duo V25 V20.heap.size (.bool false) (.slice none 0 0)) := by unfold Hid;rw [← hW];exact Duo.new V20 _ _
      have SP := hid (show wr.heap.size ≤ V20.heap.size from GZ.out);replace GZ : Hid (wr.heap.size ≤ V25.heap.size) := GB.out.size;have NE : Hid (D1.heap.size ≠ V20.heap.size) := by unfold Hid;have := DT.out.blk;omega
      replace DT := hid (DT.out.step b);clear sz25;rw [hW];clear hW b;refine hK.out _ _ (fun _ => KB.out _ GB.out) ?_;clear hK
      try simp only [Act.put]
      refine zAA (i := 9) (o := ⟨some 35,.call { callee := .value (.func 76),args := #[.tmp 30,.tmp 34],argTypes := #[80,27] },27, "triangle.go:67",#[⟨4,.data⟩,⟨8,.data⟩],none⟩) (by kernel_rfl) rfl (fun K hK => ?_);go_simp;go_at_call 76;refine (zgC (KC.out.step GB.out) (ZD.out.now GB.out) (ZR.out.now GB.out).zi HD0.out (by have := HKK.out;have := HkK.out;omega) (by have := HKK.out;omega)).mono ?_;rintro e w26 ⟨rq,rfl,mq,b⟩;have lz26 := (show Below _ _ _ from b).size;replace GB := hid (below_step GB.out b);have MQ := hid mq;obtain ⟨nq,xq,aq,cq,rfl⟩ := mq.parts;clear mq;replace GZ : Hid (wr.heap.size ≤ w26.heap.size) := GB.out.size;replace DP := hid (DP.out.step b);replace DT := hid (DT.out.step b);clear b;refine hK.out _ _ (fun _ => KB.out _ GB.out) ?_;clear hK;refine zAA (i := 12) (o := ⟨none,.store 27 (.tmp 10) (.tmp 29),0, "triangle.go:67",#[⟨10,.data⟩,⟨3,.data⟩,⟨9,.chain⟩,⟨0,.phase⟩,⟨1,.phase⟩,⟨2,.phase⟩,⟨3,.phase⟩,⟨4,.textOnly .lateStores⟩,⟨5,.textOnly .lateStores⟩,⟨6,.textOnly .lateStores⟩,⟨7,.textOnly .lateStores⟩,⟨8,.textOnly .lateStores⟩,⟨9,.textOnly .lateStoresUnsure⟩,⟨10,.phase⟩,⟨11,.phase⟩],none⟩) (by kernel_rfl) rfl (fun K hK => ?_);have e0 := DP.out.c0;have e1 := DP.out.c1;have e2 := DP.out.fz 0;have e3 := DP.out.fz 1;go_simp;clear e0 e1 e2 e3;obtain ⟨V27,hW⟩ : ∃ V27,((w26.setCell ⟨V20.heap.size,0,none⟩ (.bool nn)).setCell ⟨V20.heap.size,1,none⟩ (.slice an ln cn)) = V27 := ⟨_,rfl⟩
      replace GB : Hid (Below wr.heap.size wr V27) := by unfold Hid;rw [← hW];exact bset (bset GB.out SP.out) SP.out
      have QP : Hid (Duo V27 V20.heap.size (.bool nn) (.slice an ln cn)) := by unfold Hid;rw [← hW];exact DP.out.set _ _
      replace MQ : Hid (Zm 0 V27 (.agg #[.bool nq,.slice aq xq.length cq]) (R j % D) k) := by unfold Hid;rw [← hW];exact MQ.out.ty (DP.out.ty13 _ _) (by decide)
      replace DT : Hid (Duo V27 D1.heap.size (.bool false) (.slice none 0 0)) := by unfold Hid;rw [← hW];exact DT.out.box (by have := NE.out;omega) _ _
      clear DP;rw [hW];clear hW;refine hK.out _ _ (fun h => absurd h (by decide)) ?_;clear hK
      try simp only [Act.put]
      refine zAA (i := 13) (o := ⟨none,.store 27 (.tmp 11) (.tmp 35),0, "triangle.go:67",#[⟨11,.data⟩,⟨9,.data⟩,⟨12,.chain⟩,⟨0,.phase⟩,⟨1,.phase⟩,⟨2,.phase⟩,⟨3,.phase⟩,⟨4,.phase⟩,⟨5,.phase⟩,⟨6,.phase⟩,⟨7,.phase⟩,⟨8,.phase⟩,⟨9,.phase⟩,⟨10,.phase⟩,⟨11,.phase⟩,⟨12,.phase⟩],none⟩) (by kernel_rfl) rfl (fun K hK => ?_);have e0 := DT.out.c0;have e1 := DT.out.c1;have e2 := DT.out.fz 0;have e3 := DT.out.fz 1;go_simp;clear e0 e1 e2 e3;obtain ⟨V28,hW⟩ : ∃ V28,((V27.setCell ⟨D1.heap.size,0,none⟩ (.bool nq)).setCell ⟨D1.heap.size,1,none⟩ (.slice aq xq.length cq)) = V28 := ⟨_,rfl⟩
      replace GB : Hid (Below wr.heap.size wr V28) := by unfold Hid;rw [← hW];exact bset (bset GB.out ST.out) ST.out
      have QT : Hid (Duo V28 D1.heap.size (.bool nq) (.slice aq xq.length cq)) := by unfold Hid;rw [← hW];exact DT.out.set _ _
      replace MQ : Hid (Zm 0 V28 (.agg #[.bool nq,.slice aq xq.length cq]) (R j % D) k) := by unfold Hid;rw [← hW];exact MQ.out.ty (DT.out.ty13 _ _) (by decide)
      replace QP : Hid (Duo V28 V20.heap.size (.bool nn) (.slice an ln cn)) := by unfold Hid;rw [← hW];exact QP.out.box (by have := NE.out;omega) _ _
      clear DT;rw [hW];clear hW;refine hK.out _ _ (fun h => absurd h (by decide)) ?_;clear hK
      try simp only [Act.put]
      refine zCA (by kernel_rfl) ?_ _;have FN4 : Hid (Bx19 wr V28 (.pointer (some ⟨V20.heap.size,0,none⟩)) (.pointer (some ⟨D1.heap.size,0,none⟩)) (.bool nn) (.slice an ln cn) (R j % D) k) := ⟨_,_,nq,xq,aq,cq,rfl,rfl,SP.out,ST.out,by have := NE.out;omega,QP.out,QT.out,MQ.out,GB.out⟩
      clear GB GZ QP QT SP ST NE MQ;go_wp2_with fail;go_meet;exact FN4.out
   case rest =>
   rename World => W5
   obtain ⟨bp,bm,nq,xq,aq,cq,rfl,rfl,hbp,hbm,hpm,dp,dm,zq,b⟩ := hcut;have T5 : Hid (zOA (zHG gr gl) V0 W5) := TW.out.trans (.ofBelow b);have DP := hid dp;have DM := hid dm;have ZQ := hid zq;replace ZN := hid (ZN.out.now b);have LW5 := hid (LW.out.now b);have RW5 := hid (RW.out.now b);have hwz := TW.out.size;have HBP : Hid (bp ≠ gr ∧ bp ≠ gl ∧ bm ≠ gr ∧ bm ≠ gl) := by unfold Hid;have := HGW.out;omega
   obtain ⟨k1,k2,k3,k4,k5,k6,k7⟩ := KS.out _ T5.out;have KC5 := hid k1;have ZD5 := hid k2;have ZX5 := hid k4;have ZY5 := hid k5;have p0 := dp.c0;have p1 := dp.c1;have m0 := dm.c0;have m1 := dm.c1;have y0 := k3.at (i := 0) rfl;have y1 := k3.at (i := 1) rfl;have y2 := k3.at (i := 2) rfl;have y3 := k3.at (i := 3) rfl;clear k1 k2 k3 k4 k5 k6 k7 dp dm zq b q0 q1 r0 r1 hbp hbm hpm ZR KC ZD TW LW RW hwz;go_wp2_with fail;have KB : Hid (∀ w',Below W5.heap.size W5 w' → w'.cell? ⟨bx,0,none⟩ = some (.bool nx) ∧ w'.cell? ⟨bx,1,none⟩ = some (.slice ax lx cx) ∧ w'.cell? ⟨bx,2,none⟩ = some (.bool ny) ∧ w'.cell? ⟨bx,3,none⟩ = some (.slice ay ly cy) ∧ w'.cell? ⟨bp,0,none⟩ = some (.bool nn) ∧ w'.cell? ⟨bp,1,none⟩ = some (.slice an ln cn) ∧ w'.cell? ⟨bm,0,none⟩ = some (.bool nq) ∧ w'.cell? ⟨bm,1,none⟩ = some (.slice aq xq.length cq)) := fun w' h => ⟨cnow h y0,cnow h y1,cnow h y2,cnow h y3,cnow h p0,cnow h p1,cnow h m0,cnow h m1⟩
   refine zFA (fun w' => w'.cell? ⟨bx,0,none⟩ = some (.bool nx) ∧ w'.cell? ⟨bx,1,none⟩ = some (.slice ax lx cx) ∧ w'.cell? ⟨bx,2,none⟩ = some (.bool ny) ∧ w'.cell? ⟨bx,3,none⟩ = some (.slice ay ly cy) ∧ w'.cell? ⟨bp,0,none⟩ = some (.bool nn) ∧ w'.cell? ⟨bp,1,none⟩ = some (.slice an ln cn) ∧ w'.cell? ⟨bm,0,none⟩ = some (.bool nq) ∧ w'.cell? ⟨bm,1,none⟩ = some (.slice aq xq.length cq)) 15 (by kernel_rfl) ?_;obtain ⟨D41,hD⟩ : ∃ D41,W5.drew = D41 := ⟨_,rfl⟩
   have GB : Hid (Below W5.heap.size W5 D41) := by unfold Hid;rw [← hD];exact (Below.refl _ _).drew
   rw [hD];clear hD;refine zEA [(0,(.slice (some ⟨gl,0,none⟩) n n)),(1,(.int .i64 (j : Int))),(2,(.pointer (some ⟨bt,0,none⟩))),(3,(.pointer (some ⟨bx,0,none⟩))),(4,(.pointer (some ⟨bx,0,none⟩))),(5,(.agg #[.bool nx,.slice ax lx cx])),(6,(.agg #[.bool nn,.slice an ln cn])),(7,(.pointer (some ⟨bx,0,none⟩))),(8,(.pointer (some ⟨bx,2,none⟩))),(9,(.agg #[.bool ny,.slice ay ly cy])),(10,(.agg #[.bool nq,.slice aq xq.length cq]))] 11 ?_ (KB.out _ GB.out) ?_
   ·simp only [zPA,gA9,g09,g19,Act.put,sI9,s09,s19]
    (repeat' (first | exact trivial | refine And.intro (Or.inl ⟨by rfl,?_⟩) ?_)) <;> (intro w hSw;(try dsimp only at hSw);go_simp)
   simp only [actV,gA9,g09,g19,Act.put,sI9,s09,s19];refine zAA (i := 11) (o := ⟨some 47,.call { callee := .value (.func 11),args := #[.tmp 45,.tmp 46],argTypes := #[27,27] },27, "triangle.go:68",#[⟨9,.data⟩,⟨10,.data⟩],none⟩) (by kernel_rfl) rfl (fun K hK => ?_);go_simp;go_at_call 11;refine (zzB (ZY5.out.now GB.out).zi (ZQ.out.now GB.out).zi (by have := HKK.out;have := HkK.out;omega)).mono ?_;rintro e w42 ⟨r1,rfl,m1q,b⟩;have lz42 := (show Below _ _ _ from b).size;replace GB := hid (below_step GB.out b);have M1 := hid (m1q.mono (Nat.zero_le _));clear m1q;clear b;refine hK.out _ _ (fun _ => KB.out _ GB.out) ?_;clear hK;refine zAA (i := 12) (o := ⟨some 48,.call { callee := .value (.func 24),args := #[.tmp 41,.tmp 42,.tmp 47],argTypes := #[27,27,27] },27, "triangle.go:68",#[⟨5,.data⟩,⟨6,.data⟩,⟨11,.data⟩,⟨11,.chain⟩],none⟩) (by kernel_rfl) rfl (fun K hK => ?_);go_simp;go_at_call 24;refine (zsF (ZX5.out.now GB.out).zi (ZN.out.now GB.out).zi M1.out.zi (by have := HKK.out;omega) (by have := HKK.out;have := HkK.out;omega)).mono ?_;rintro e w43 ⟨r2,rfl,m1q,b⟩;have lz43 := (show Below _ _ _ from b).size;replace GB := hid (below_step GB.out b);have M2 := hid (m1q.mono (Nat.zero_le _));clear m1q;clear b;refine hK.out _ _ (fun _ => KB.out _ GB.out) ?_;clear hK;refine zAA (i := 13) (o := ⟨some 49,.call { callee := .value (.func 76),args := #[.tmp 38,.tmp 48],argTypes := #[80,27] },27, "triangle.go:68",#[⟨2,.data⟩,⟨12,.data⟩,⟨12,.chain⟩],none⟩) (by kernel_rfl) rfl (fun K hK => ?_);go_simp;go_at_call 76;refine (zgC (KC5.out.step GB.out) (ZD5.out.now GB.out) M2.out.zi HD0.out (by have := HKK.out;have := HkK.out;omega) (by have := HKK.out;have := HkK.out;omega)).mono ?_;rintro e w44 ⟨r3,rfl,m1q,b⟩;have lz44 := (show Below _ _ _ from b).size;replace GB := hid (below_step GB.out b);have M3 := hid (m1q.more HkK.out);obtain ⟨nr,xr,ar,cr,rfl⟩ := m1q.parts;have LW6 := hid (LW5.out.now GB.out);clear m1q M1 M2;clear b;refine hK.out _ _ (fun _ => KB.out _ GB.out) ?_;clear hK;refine zEA [(14,(.pointer (some ⟨gl,j * 2,none⟩)))] 1 ?_ (KB.out _ GB.out) ?_
   ·simp only [zPA,gA9,g09,g19,Act.put,sI9,s09,s19]
    (repeat' (first | exact trivial | refine And.intro (Or.inl ⟨by rfl,?_⟩) ?_)) <;> (intro w hSw;(try dsimp only at hSw);go_simp)
   simp only [actV,gA9,g09,g19,Act.put,sI9,s09,s19];refine zAA (i := 15) (o := ⟨none,.store 27 (.tmp 50) (.tmp 49),0, "triangle.go:68",#[⟨14,.data⟩,⟨13,.data⟩,⟨13,.chain⟩,⟨0,.phase⟩,⟨1,.phase⟩,⟨2,.phase⟩,⟨3,.phase⟩,⟨4,.phase⟩,⟨5,.phase⟩,⟨6,.phase⟩,⟨7,.phase⟩,⟨8,.phase⟩,⟨9,.phase⟩,⟨10,.phase⟩,⟨11,.phase⟩,⟨12,.phase⟩,⟨13,.phase⟩],none⟩) (by kernel_rfl) rfl (fun K hK => ?_);obtain ⟨_,_,_,_,e0,e1,e2,e3,-⟩ := LW6.out.at hlt;go_simp;clear e0 e1 e2 e3;obtain ⟨V45,hW⟩ : ∃ V45,((w44.setCell ⟨gl,j * 2,none⟩ (.bool nr)).setCell ⟨gl,j * 2 + 1,none⟩ (.slice ar xr.length cr)) = V45 := ⟨_,rfl⟩
   have hsz6 := GB.out.size;obtain ⟨hp6,ty6⟩ := LW6.out.put hlt (show Zm 0 w44 (.agg #[.bool nr,.slice ar xr.length cr]) (G j) kw by rw [HGj.out j hcj];exact M3.out);have TT : zOA (zHG gr gl) V0 ((w44.setCell ⟨gl,j * 2,none⟩ (.bool nr)).setCell ⟨gl,j * 2 + 1,none⟩ (.slice ar xr.length cr)) := ((T5.out.trans (.ofBelow GB.out)).setCell (.inr (.inr rfl)) _ _).setCell (.inr (.inr rfl)) _ _;have hgl1 : ∀ {b : Nat} {x0 y0 : Value},Duo W5 b x0 y0 → b ≠ gl → Duo ((w44.setCell ⟨gl,j * 2,none⟩ (.bool nr)).setCell ⟨gl,j * 2 + 1,none⟩ (.slice ar xr.length cr)) b x0 y0 := fun d hb => ((d.step GB.out).ne (fun q => hb q.symm)).ne (fun q => hb q.symm)
   have rw6 : Rw17 ((w44.setCell ⟨gl,j * 2,none⟩ (.bool nr)).setCell ⟨gl,j * 2 + 1,none⟩ (.slice ar xr.length cr)) gr n (mx13 R F j) kw := (RW5.out.now GB.out).oth19 (S := (· = gl)) (zUB (zOA.refl _ _) _ _) ty6 (fun q => HNE.out q);have zn6 := (ZN.out.now GB.out).ty ty6 (by decide);have zq6 := (ZQ.out.now GB.out).ty ty6 (by decide);have dp6 := hgl1 DP.out HBP.out.2.1;have dm6 := hgl1 DM.out HBP.out.2.2.2;rw [hW] at hp6 TT rw6 zn6 zq6 dp6 dm6;have LW7 := hid (hp6.congr fun t ht => zcE ht);have RW7 := hid rw6;have T7 := hid TT;have ZN7 := hid zn6;have ZQ7 := hid zq6;have DP7 := hid dp6;have DM7 := hid dm6;clear hp6 TT rw6 zn6 zq6 dp6 dm6 hgl1 ty6 hsz6 LW6 M3;rw [hW];clear hW;refine hK.out _ _ (fun h => absurd h (by decide)) ?_;clear hK
   try simp only [Act.put]
   refine zCA (by kernel_rfl) ?_ _;clear GB KB p0 p1 m0 m1 y0 y1 y2 y3 KC5 ZD5 ZX5 ZY5 LW5 RW5 T5 DP DM ZQ ZN;obtain ⟨W7,hW7⟩ : ∃ W7,V45 = W7 := ⟨_,rfl⟩
   rw [hW7] at LW7 RW7 T7 ZN7 ZQ7 DP7 DM7 ⊢;clear hW7;obtain ⟨k1,k2,k3,k4,k5,k6,k7⟩ := KS.out _ T7.out;have KC7 := hid k1;have ZD7 := hid k2;have ZU7 := hid k6;have ZV7 := hid k7;have p0 := DP7.out.c0;have p1 := DP7.out.c1;have m0 := DM7.out.c0;have m1 := DM7.out.c1;have y4 := k3.at (i := 4) rfl;have y5 := k3.at (i := 5) rfl;have y6 := k3.at (i := 6) rfl;have y7 := k3.at (i := 7) rfl;clear k1 k2 k3 k4 k5 k6 k7;go_wp2_with fail;have KB : Hid (∀ w',Below W7.heap.size W7 w' → w'.cell? ⟨bx,4,none⟩ = some (.bool nu) ∧ w'.cell? ⟨bx,5,none⟩ = some (.slice au lu cu) ∧ w'.cell? ⟨bx,6,none⟩ = some (.bool nv) ∧ w'.cell? ⟨bx,7,none⟩ = some (.slice av lv cv) ∧ w'.cell? ⟨bp,0,none⟩ = some (.bool nn) ∧ w'.cell? ⟨bp,1,none⟩ = some (.slice an ln cn) ∧ w'.cell? ⟨bm,0,none⟩ = some (.bool nq) ∧ w'.cell? ⟨bm,1,none⟩ = some (.slice aq xq.length cq)) := fun w' h => ⟨cnow h y4,cnow h y5,cnow h y6,cnow h y7,cnow h p0,cnow h p1,cnow h m0,cnow h m1⟩
   refine zFA (fun w' => w'.cell? ⟨bx,4,none⟩ = some (.bool nu) ∧ w'.cell? ⟨bx,5,none⟩ = some (.slice au lu cu) ∧ w'.cell? ⟨bx,6,none⟩ = some (.bool nv) ∧ w'.cell? ⟨bx,7,none⟩ = some (.slice av lv cv) ∧ w'.cell? ⟨bp,0,none⟩ = some (.bool nn) ∧ w'.cell? ⟨bp,1,none⟩ = some (.slice an ln cn) ∧ w'.cell? ⟨bm,0,none⟩ = some (.bool nq) ∧ w'.cell? ⟨bm,1,none⟩ = some (.slice aq xq.length cq)) 15 (by kernel_rfl) ?_;obtain ⟨D46,hD⟩ : ∃ D46,W7.drew = D46 := ⟨_,rfl⟩
   have GB : Hid (Below W7.heap.size W7 D46) := by unfold Hid;rw [← hD];exact (Below.refl _ _).drew
   rw [hD];clear hD;refine zEA [(0,(.slice (some ⟨gr,0,none⟩) n n)),(1,(.int .i64 (j : Int))),(2,(.pointer (some ⟨bt,0,none⟩))),(3,(.pointer (some ⟨bx,4,none⟩))),(4,(.pointer (some ⟨bx,4,none⟩))),(5,(.agg #[.bool nu,.slice au lu cu])),(6,(.agg #[.bool nn,.slice an ln cn])),(7,(.pointer (some ⟨bx,4,none⟩))),(8,(.pointer (some ⟨bx,6,none⟩))),(9,(.agg #[.bool nv,.slice av lv cv])),(10,(.agg #[.bool nq,.slice aq xq.length cq]))] 11 ?_ (KB.out _ GB.out) ?_
   ·simp only [zPA,gA9,g09,g19,Act.put,sI9,s09,s19]
    (repeat' (first | exact trivial | refine And.intro (Or.inl ⟨by rfl,?_⟩) ?_)) <;> (intro w hSw;(try dsimp only at hSw);go_simp)
   simp only [actV,gA9,g09,g19,Act.put,sI9,s09,s19];refine zAA (i := 11) (o := ⟨some 62,.call { callee := .value (.func 11),args := #[.tmp 60,.tmp 61],argTypes := #[27,27] },27, "triangle.go:69",#[⟨9,.data⟩,⟨10,.data⟩],none⟩) (by kernel_rfl) rfl (fun K hK => ?_);go_simp;go_at_call 11;refine (zzB (ZV7.out.now GB.out).zi (ZQ7.out.now GB.out).zi (by have := HKK.out;have := HkK.out;omega)).mono ?_;rintro e w47 ⟨r1,rfl,m1q,b⟩;have lz47 := (show Below _ _ _ from b).size;replace GB := hid (below_step GB.out b);have M1 := hid (m1q.mono (Nat.zero_le _));clear m1q;clear b;refine hK.out _ _ (fun _ => KB.out _ GB.out) ?_;clear hK;refine zAA (i := 12) (o := ⟨some 63,.call { callee := .value (.func 24),args := #[.tmp 56,.tmp 57,.tmp 62],argTypes := #[27,27,27] },27, "triangle.go:69",#[⟨5,.data⟩,⟨6,.data⟩,⟨11,.data⟩,⟨11,.chain⟩],none⟩) (by kernel_rfl) rfl (fun K hK => ?_);go_simp;go_at_call 24;refine (zsF (ZU7.out.now GB.out).zi (ZN7.out.now GB.out).zi M1.out.zi (by have := HKK.out;omega) (by have := HKK.out;have := HkK.out;omega)).mono ?_;rintro e w48 ⟨r2,rfl,m1q,b⟩;have lz48 := (show Below _ _ _ from b).size;replace GB := hid (below_step GB.out b);have M2 := hid (m1q.mono (Nat.zero_le _));clear m1q;clear b;refine hK.out _ _ (fun _ => KB.out _ GB.out) ?_;clear hK;refine zAA (i := 13) (o := ⟨some 64,.call { callee := .value (.func 76),args := #[.tmp 53,.tmp 63],argTypes := #[80,27] },27, "triangle.go:69",#[⟨2,.data⟩,⟨12,.data⟩,⟨12,.chain⟩],none⟩) (by kernel_rfl) rfl (fun K hK => ?_);go_simp;go_at_call 76;refine (zgC (KC7.out.step GB.out) (ZD7.out.now GB.out) M2.out.zi HD0.out (by have := HKK.out;have := HkK.out;omega) (by have := HKK.out;have := HkK.out;omega)).mono ?_;rintro e w49 ⟨r3,rfl,m1q,b⟩;have lz49 := (show Below _ _ _ from b).size;replace GB := hid (below_step GB.out b);have M3 := hid (m1q.more HkK.out);obtain ⟨nr,xr,ar,cr,rfl⟩ := m1q.parts;have RW8 := hid (RW7.out.now GB.out);clear m1q M1 M2;clear b;refine hK.out _ _ (fun _ => KB.out _ GB.out) ?_;clear hK;refine zEA [(14,(.pointer (some ⟨gr,j * 2,none⟩)))] 1 ?_ (KB.out _ GB.out) ?_
   ·simp only [zPA,gA9,g09,g19,Act.put,sI9,s09,s19]
    (repeat' (first | exact trivial | refine And.intro (Or.inl ⟨by rfl,?_⟩) ?_)) <;> (intro w hSw;(try dsimp only at hSw);go_simp)
   simp only [actV,gA9,g09,g19,Act.put,sI9,s09,s19];refine zAA (i := 15) (o := ⟨none,.store 27 (.tmp 65) (.tmp 64),0, "triangle.go:69",#[⟨14,.data⟩,⟨13,.data⟩,⟨13,.chain⟩,⟨0,.phase⟩,⟨1,.phase⟩,⟨2,.phase⟩,⟨3,.phase⟩,⟨4,.phase⟩,⟨5,.phase⟩,⟨6,.phase⟩,⟨7,.phase⟩,⟨8,.phase⟩,⟨9,.phase⟩,⟨10,.phase⟩,⟨11,.phase⟩,⟨12,.phase⟩,⟨13,.phase⟩],none⟩) (by kernel_rfl) rfl (fun K hK => ?_);obtain ⟨_,_,_,_,e0,e1,e2,e3,-⟩ := RW8.out.at hlt;go_simp;clear e0 e1 e2 e3;obtain ⟨V50,hW⟩ : ∃ V50,((w49.setCell ⟨gr,j * 2,none⟩ (.bool nr)).setCell ⟨gr,j * 2 + 1,none⟩ (.slice ar xr.length cr)) = V50 := ⟨_,rfl⟩
   have HN1 : Hid (zrH V0 gr gl n c R F L0 G kw (n - (j + 1)) (.int .i64 ((j + 1 : Nat) : Int)) V50) := by
    unfold Hid;rw [← hW];obtain ⟨hp8,ty8⟩ := RW8.out.put hlt (show Zm 0 w49 (.agg #[.bool nr,.slice ar xr.length cr]) (F j) kw by rw [HFj.out j hcj];exact M3.out);exact ⟨j + 1,rfl,by omega,by omega,rfl,hp8.congr fun t ht => zcE ht,(LW7.out.now GB.out).oth19 (S := (· = gr)) (zUB (zOA.refl _ _) _ _) ty8 (fun q => HNE.out q.symm),((T7.out.trans (.ofBelow GB.out)).setCell (.inr (.inl rfl)) _ _).setCell (.inr (.inl rfl)) _ _⟩
   rw [hW];clear hW;refine hK.out _ _ (fun h => absurd h (by decide)) ?_;clear hK
   try simp only [Act.put]
   refine zCA (by kernel_rfl) ?_ _;clear GB KB M3 RW8 p0 p1 m0 m1 y4 y5 y6 y7 KC7 ZD7 ZU7 ZV7 LW7 RW7 T7 DP7 DM7 ZQ7 ZN7;go_wp2_with fail;go_roundg (n - (j + 1))
   case rel => exact HN1.out
   case measure => exact HMM.out
  ·have hlt' : ¬ (j : Int) < (n : Int) := by omega
   obtain rfl : j = n := by omega
   have FF := hid (FIN.out wr RW.out LW.out TW.out);clear RW LW TW HG FIN;go_wp2;go_end0;exact FF.out
end Go.Proofs.YtfeofdpnhhiclaaGreat
