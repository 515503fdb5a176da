/-
 QLe19ToTail3: Le19, Tail3, joined.
-/
import Derived.Test.YtfeofdpnhhiclaaGreatQPn19ToRs19
import Derived.Test.YtfeofdpnhhiclaaGreatQFil9ToRowsOf9

set_option maxRecDepth 100000
set_option maxHeartbeats 6400000
set_option linter.unusedVariables false
set_option linter.unusedSimpArgs false
namespace Go.Proofs.YtfeofdpnhhiclaaGreat
open Go.RowKit
def zKH (w : World) (gr n c : Nat) (R F : Nat → Int) (kw gk : Nat) (s : Value) (wx : World) : Prop := ∃ j : Nat,s = .int .i64 (j : Int) ∧ c ≤ j ∧ j ≤ n ∧ gk = n - j ∧ Rw17 wx gr n (mx13 R F j) kw ∧ zOA (· = gr) w wx
def zoE (w : World) (gr n : Nat) (F : Nat → Int) (kw : Nat) (e : Ending) (w' : World) : Prop := e = .returned (.tuple #[]) ∧ Rw17 w' gr n F kw ∧ zOA (· = gr) w w'
theorem zwA {w w' : World} {g n k : Nat} {F : Nat → Int} (h : Rw17 w g n F k) (ht : zOA (· = g) w w') : Ty 27 w w' := by
 obtain ⟨ps,p,_⟩ := h;exact ht.ty13 p
theorem zUB {w w' : World} {g j : Nat} (h : zOA (· = g) w w') (x y : Value) : zOA (· = g) w ((w'.setCell ⟨g,j * 2,none⟩ x).setCell ⟨g,j * 2 + 1,none⟩ y) := (h.setCell (.inr rfl) _ _).setCell (.inr rfl) _ _
theorem mx_now19 {R F : Nat → Int} {n j t : Nat} (ht : t < n) (e : F j = R j) : mx13 R F j t = mx13 R F (j + 1) t := by
 unfold mx13
 by_cases q : t < j
 ·rw [if_pos q,if_pos (by omega)]
 ·rw [if_neg q]
  by_cases q2 : t = j
  ·subst q2;rw [if_pos (by omega),e]
  ·rw [if_neg (by omega)]
theorem zcE {R F : Nat → Int} {n j t : Nat} (ht : t < n) : (if t = j then F j else mx13 R F j t) = mx13 R F (j + 1) t := by
 unfold mx13
 by_cases q2 : t = j
 ·subst q2;rw [if_pos rfl,if_pos (by omega)]
 ·rw [if_neg q2]
  by_cases q : t < j
  ·rw [if_pos q,if_pos (by omega)]
  ·rw [if_neg q,if_neg (by omega)]
theorem zhD {B bt n k kw l c gr ld cd la lt ct lc : Nat} {w : World} {nd nt : Bool} {ad at0 : Option Addr} {D s : Int} {gs : Nat → Nat} {L : Nat → Nat → Int} {R : Nat → Int}
  (hT : Tg19 B w bt nd ad ld cd (.slice (some ⟨la,0,none⟩) n lc) n D gs L k kw) (hc : c < n) (hR : Rw17 w gr n R kw) (hne : gr ≠ gs c) (ht : Zm 0 w (.agg #[.bool nt,.slice at0 lt ct]) s l)
  (hF : ∀ j,j < n → ((ziA c s (L c) R j).natAbs : Int) < pw kw) (hn : n ≤ 64) (hK : l + kw < 35184372088000) :
  Calls Tryz.prog 80 #[.pointer (some ⟨bt,0,none⟩),.slice (some ⟨gr,0,none⟩) n n,.int .i64 (c : Int),.agg #[.bool nt,.slice at0 lt ct]] w (zoE w gr n (ziA c s (L c) R) kw) := by
 obtain ⟨hC,-,hS⟩ := hT;obtain ⟨V0,hV0⟩ : ∃ V0,w.alloc (duo (.bool nt) (.slice at0 lt ct)) = V0 := ⟨_,rfl⟩
 obtain ⟨b0,sz0⟩ := alo1 w (duo (.bool nt) (.slice at0 lt ct));rw [hV0] at b0 sz0;have hgw := hR.blk;have dT : Duo V0 w.heap.size (.bool nt) (.slice at0 lt ct) := by rw [← hV0];exact Duo.new w _ _
 have KS : Hid (∀ wx,zOA (· = gr) V0 wx → Cel wx bt 109 [.bool nd,.slice ad ld cd,.slice (some ⟨la,0,none⟩) n lc] ∧ wx.cell? ⟨la,c,none⟩ = some (.slice (some ⟨gs c,0,none⟩) n n) ∧ Rw17 wx (gs c) n (L c) kw ∧ Zm 0 wx (.agg #[.bool nt,.slice at0 lt ct]) s l ∧ Duo wx w.heap.size (.bool nt) (.slice at0 lt ct)) := fun wx htw => by
  have ty := zwA (hR.now b0) htw;obtain ⟨ps,p1,p2⟩ := hR.now b0;refine ⟨(hC.step b0).ty13 ty (by decide),?_,((hS.now b0).2.2 c hc).2.touch htw p1 (fun e => hne e.symm),?_,(htw.block _ dT.blk (by omega)).trans dT⟩
  ·have := (hS.now b0).line
   obtain ⟨h1,h2,h3⟩ := id (hS.now b0);rcases h1 with ⟨_,h1⟩ | ⟨h0,Lb',cap',r,e,e0,e1,e2⟩
   ·cases h1
   ·simp only [Value.slice.injEq,Option.some.injEq,Addr.mk.injEq,and_true,true_and] at e
    obtain ⟨rfl,rfl⟩ := e;exact (e2.ty13 ty (by decide)).at (zfE hc)
  ·exact (ht.now b0).ty ty (by decide)
 have H0 : Hid (zKH V0 gr n c R (ziA c s (L c) R) kw (n - c) (.int .i64 (c : Int)) V0) := ⟨c,rfl,Nat.le_refl _,by omega,rfl,(hR.now b0).congr fun j hj => by
  unfold mx13 ziA
  by_cases q : j < c
  ·rw [if_pos q,if_pos q]
  ·rw [if_neg q],zOA.refl _ _⟩
 have HF := hid hF;have HC := hid hc;have HB0 := hid b0;have HKK := hid hK;have HGW : Hid (gr < V0.heap.size ∧ gr < w.heap.size) := ⟨by omega,hgw⟩
 have FIN : Hid (∀ wx,Rw17 wx gr n (mx13 R (ziA c s (L c) R) n) kw → zOA (· = gr) V0 wx → zoE w gr n (ziA c s (L c) R) kw (.returned (.tuple #[])) wx) := fun wx h1 h2 => ⟨rfl,h1.congr fun j hj => if_pos hj,(zOA.ofBelow b0).trans h2⟩
 have EV0 := hid hV0;obtain ⟨bx,hbx⟩ : ∃ bx,w.heap.size = bx := ⟨_,rfl⟩
 rw [hbx] at KS;have EBX := hid hbx;have hcn : (c : Int) < (n : Int) := by omega
 clear hC hS hR hne ht hF hK b0 sz0 hV0 dT hgw hbx;go_enter Tryz.func80,Tryz.ntmps80;go_wp2_with fail;rw [EV0.out,EBX.out]
 go_loopg [8] (n - c) (fun gk s8 wx => zKH V0 gr n c R (ziA c s (L c) R) kw gk s8 wx)
 case atStart => exact H0.out
 case round =>
  clear H0;obtain ⟨j,rfl,hcj,hjn,hgk,hrw,htw⟩ := hrel;have RW := hid hrw;have TW := hid htw;have HG := hid hgk;clear hrw htw hgk
  by_cases hlt : j < n
  ·have hlt' : (j : Int) < (n : Int) := by omega
   obtain ⟨k1,k2,k3,k4,k5⟩ := KS.out _ TW.out;obtain ⟨nn,an,ln,cn,q0,q1,-,-,zn⟩ := k3.at hlt;have x2 := k1.at (i := 2) rfl;obtain ⟨V1,hV⟩ : ∃ V1,wr.alloc (duo (.bool nn) (.slice an ln cn)) = V1 := ⟨_,rfl⟩
   obtain ⟨b,sz1⟩ := alo1 wr (duo (.bool nn) (.slice an ln cn));rw [hV] at b sz1;have PN : Hid (Duo V1 wr.heap.size (.bool nn) (.slice an ln cn)) := by unfold Hid;rw [← hV];exact Duo.new wr _ _
   have RW1 := hid (RW.out.now b);have ZN := hid (zn.now b);have ZT := hid (k4.now b);have DT := hid (k5.step b);have TV1 : Hid (zOA (· = gr) V0 V1) := TW.out.trans (.ofBelow b);have HMM : Hid (n - (j + 1) < gk) := by unfold Hid;rw [HG.out];omega
   have hwj := zjA (i := j) (by omega);have EV := hid hV;have HSG := hid (zmA ZN.out.zi);have n0 := PN.out.c0;have n1 := PN.out.c1;rw [← hV] at n0 n1;obtain ⟨bn,hbn⟩ : ∃ bn,wr.heap.size = bn := ⟨_,rfl⟩
   rw [hbn] at PN n0 n1;have EBN := hid hbn;clear k1 k3 k4 k5 zn b sz1 hV HG hbn TW RW;go_wp2_with fail;rw [EV.out,EBN.out];refine HSG.out.mono ?_;rintro e w2 ⟨rfl,b⟩;replace PN := hid (PN.out.step b);replace RW1 := hid (RW1.out.now b);replace ZN := hid (ZN.out.now b);replace ZT := hid (ZT.out.now b);replace DT := hid (DT.out.step b);replace TV1 : Hid (zOA (· = gr) V0 w2) := TV1.out.trans (.ofBelow b);clear HSG EV EBN b n0 n1 q0 q1 x2 k2
   by_cases hz : L c j = 0
   ·have HN1 : Hid (zKH V0 gr n c R (ziA c s (L c) R) kw (n - (j + 1)) (.int .i64 ((j + 1 : Nat) : Int)) w2) := ⟨j + 1,rfl,by omega,by omega,rfl,RW1.out.congr fun t ht => mx_now19 ht (by unfold ziA;rw [if_neg (by omega),hz];omega),TV1.out⟩
    have hs0 : cmpI (L c j) 0 = 0 := by rw [hz];rfl
    rw [hs0];clear PN RW1 ZN ZT DT TV1 hz hs0;go_wp2_with fail;go_roundg (n - (j + 1))
    case rel => exact HN1.out
    case measure => exact HMM.out
   ·have hs0 : (cmpI (L c j) 0 != 0) = true := by
     unfold cmpI
     split <;> (try split) <;> first | rfl | omega
    obtain ⟨sg,hsg⟩ : ∃ sg,cmpI (L c j) 0 = sg := ⟨_,rfl⟩
    rw [hsg] at hs0 ⊢;have hs1 : ¬ sg = 0 := by intro q;rw [q] at hs0;simp at hs0
    obtain ⟨nx,ax,lx,cx,x0,x1,-,-,zx⟩ := RW1.out.at hlt;have ex : mx13 R (ziA c s (L c) R) j j = R j := if_neg (by omega);rw [ex] at zx;have ZX := hid zx;have t0 := DT.out.c0;have t1 := DT.out.c1;have n0 := PN.out.c0;have n1 := PN.out.c1;clear hz hsg zx ex;go_wp2_with fail;have KB : Hid (∀ w',Below w2.heap.size w2 w' → w'.cell? ⟨gr,j * 2,none⟩ = some (.bool nx) ∧ w'.cell? ⟨gr,j * 2 + 1,none⟩ = some (.slice ax lx cx) ∧ w'.cell? ⟨bx,0,none⟩ = some (.bool nt) ∧ w'.cell? ⟨bx,1,none⟩ = some (.slice at0 lt ct) ∧ w'.cell? ⟨bn,0,none⟩ = some (.bool nn) ∧ w'.cell? ⟨bn,1,none⟩ = some (.slice an ln cn)) := fun w' h => ⟨cnow h x0,cnow h x1,cnow h t0,cnow h t1,cnow h n0,cnow h n1⟩
    refine zFA (fun w' => w'.cell? ⟨gr,j * 2,none⟩ = some (.bool nx) ∧ w'.cell? ⟨gr,j * 2 + 1,none⟩ = some (.slice ax lx cx) ∧ w'.cell? ⟨bx,0,none⟩ = some (.bool nt) ∧ w'.cell? ⟨bx,1,none⟩ = some (.slice at0 lt ct) ∧ w'.cell? ⟨bn,0,none⟩ = some (.bool nn) ∧ w'.cell? ⟨bn,1,none⟩ = some (.slice an ln cn)) 11 (by kernel_rfl) ?_;obtain ⟨D1,hD⟩ : ∃ D1,w2.drew = D1 := ⟨_,rfl⟩
    have GB : Hid (Below w2.heap.size w2 D1) := by unfold Hid;rw [← hD];exact (Below.refl _ _).drew
    rw [hD];clear hD;refine zEA [(0,(.slice (some ⟨gr,0,none⟩) n n)),(1,(.int .i64 (j : Int))),(2,(.slice (some ⟨gr,0,none⟩) n n)),(3,(.int .i64 (j : Int))),(4,(.pointer (some ⟨gr,j * 2,none⟩))),(5,(.agg #[.bool nx,.slice ax lx cx])),(6,(.agg #[.bool nt,.slice at0 lt ct])),(7,(.agg #[.bool nn,.slice an ln cn]))] 8 ?_ (KB.out _ GB.out) ?_
    ·simp only [zPA,gA9,g09,g19,Act.put,sI9,s09,s19]
     (repeat' (first | exact trivial | refine And.intro (Or.inl ⟨by rfl,?_⟩) ?_)) <;> (intro w hSw;(try dsimp only at hSw);go_simp)
    simp only [actV,gA9,g09,g19,Act.put,sI9,s09,s19];refine zAA (i := 8) (o := ⟨some 38,.call { callee := .value (.func 11),args := #[.tmp 36,.tmp 37],argTypes := #[27,27] },27, "triangle.go:58",#[⟨6,.data⟩,⟨7,.data⟩],none⟩) (by kernel_rfl) rfl (fun K hK => ?_);go_simp;go_at_call 11;refine (zzB (ZT.out.now GB.out).zi (ZN.out.now GB.out).zi (by have := HKK.out;omega)).mono ?_;rintro e w2 ⟨r1,rfl,m1,b⟩;have lz2 := (show Below _ _ _ from b).size;replace GB := hid (below_step GB.out b);have M1 := hid (m1.mono (Nat.zero_le _));clear m1;clear b;refine hK.out _ _ (fun _ => KB.out _ GB.out) ?_;clear hK;refine zAA (i := 9) (o := ⟨some 39,.call { callee := .value (.func 105),args := #[.tmp 35,.tmp 38],argTypes := #[27,27] },27, "triangle.go:58",#[⟨5,.data⟩,⟨8,.data⟩,⟨8,.chain⟩],none⟩) (by kernel_rfl) rfl (fun K hK => ?_);go_simp;go_at_call 105;refine (zzD (ZX.out.now GB.out).zi M1.out.zi (by have := HKK.out;omega) (by have := HKK.out;omega)).mono ?_;rintro e w3 ⟨r2,rfl,m1,b⟩;have lz3 := (show Below _ _ _ from b).size;replace GB := hid (below_step GB.out b);have M2 := hid ((m1.mono (Nat.zero_le _)).fit (l := kw) (by have h := HF.out j hlt;unfold ziA at h;rw [if_neg (by omega)] at h;exact h));obtain ⟨nr,xr,ar,cr,rfl⟩ := m1.parts;have RW2 := hid (RW1.out.now GB.out);have TV2 : Hid (zOA (· = gr) V0 w3) := TV1.out.trans (.ofBelow GB.out);clear m1 M1;clear b;refine hK.out _ _ (fun _ => KB.out _ GB.out) ?_;clear hK;refine zEA [(10,(.pointer (some ⟨gr,j * 2,none⟩)))] 1 ?_ (KB.out _ GB.out) ?_
    ·simp only [zPA,gA9,g09,g19,Act.put,sI9,s09,s19]
     (repeat' (first | exact trivial | refine And.intro (Or.inl ⟨by rfl,?_⟩) ?_)) <;> (intro w hSw;(try dsimp only at hSw);go_simp)
    simp only [actV,gA9,g09,g19,Act.put,sI9,s09,s19];refine zAA (i := 11) (o := ⟨none,.store 27 (.tmp 40) (.tmp 39),0, "triangle.go:58",#[⟨10,.data⟩,⟨9,.data⟩,⟨9,.chain⟩,⟨0,.phase⟩,⟨1,.phase⟩,⟨2,.phase⟩,⟨3,.phase⟩,⟨4,.phase⟩,⟨5,.phase⟩,⟨6,.phase⟩,⟨7,.phase⟩,⟨8,.phase⟩,⟨9,.phase⟩],none⟩) (by kernel_rfl) rfl (fun K hK => ?_);obtain ⟨_,_,_,_,e0,e1,e2,e3,-⟩ := RW2.out.at hlt;go_simp;clear e0 e1 e2 e3;obtain ⟨V4,hW⟩ : ∃ V4,((w3.setCell ⟨gr,j * 2,none⟩ (.bool nr)).setCell ⟨gr,j * 2 + 1,none⟩ (.slice ar xr.length cr)) = V4 := ⟨_,rfl⟩
    have HN1 : Hid (zKH V0 gr n c R (ziA c s (L c) R) kw (n - (j + 1)) (.int .i64 ((j + 1 : Nat) : Int)) V4) := by
     unfold Hid;rw [← hW];have es : R j - s * L c j = ziA c s (L c) R j := by unfold ziA;rw [if_neg (by omega)]
     have hm := M2.out;rw [es] at hm;exact ⟨j + 1,rfl,by omega,by omega,rfl,(RW2.out.put hlt hm).1.congr fun t ht => zcE ht,zUB TV2.out _ _⟩
    rw [hW];clear hW;refine hK.out _ _ (fun h => absurd h (by decide)) ?_;clear hK
    try simp only [Act.put]
    refine zCA (by kernel_rfl) ?_ _;clear GB KB M2 RW2 TV2 PN RW1 ZN ZT DT TV1 ZX t0 t1 n0 n1 x0 x1;go_wp2_with fail;go_roundg (n - (j + 1))
    case rel => exact HN1.out
    case measure => exact HMM.out
  ·have hlt' : ¬ (j : Int) < (n : Int) := by omega
   obtain rfl : j = n := by omega
   have FF := hid (FIN.out wr RW.out TW.out);clear RW TW HG FIN;go_wp2;go_end0;exact FF.out
theorem zvA {P : Program} {md : Region.Mode} {ops : Array Oper} {Q : Exit → Act → World → Prop} {S : World → Prop} {n i j l : Nat} {oi oj ol : Oper} {fuel : Nat} {listed : Array Bool} {a : Act} {w : World} (hr : Region.ready md ops listed = [i,j,l]) (hi : ops[i]? = some oi) (hj : ops[j]? = some oj) (hl : ops[l]? = some ol)
  (h1 : ∀ K' : Act → World → Prop,Shut (∀ a w,(i < n → S w) → znA P md ops Q S n fuel (listed.setIfInBounds i true) a w → K' a w) → if Region.wanted oi (yielded ops a.tmps) = true then Oper.wp P oi a w K' Q else K' (a.put oi.dst undef) w)
  (h2 : ∀ K' : Act → World → Prop,Shut (∀ a w,(j < n → S w) → znA P md ops Q S n fuel (listed.setIfInBounds j true) a w → K' a w) → if Region.wanted oj (yielded ops a.tmps) = true then Oper.wp P oj a w K' Q else K' (a.put oj.dst undef) w)
  (h3 : ∀ K' : Act → World → Prop,Shut (∀ a w,(l < n → S w) → znA P md ops Q S n fuel (listed.setIfInBounds l true) a w → K' a w) → if Region.wanted ol (yielded ops a.tmps) = true then Oper.wp P ol a w K' Q else K' (a.put ol.dst undef) w) :
  znA P md ops Q S n (fuel + 1) listed a w := by
 refine ⟨fun h0 => (by rw [hr] at h0;cases h0),fun q hq => ?_⟩;rw [hr] at hq;rcases List.mem_cons.1 hq with rfl | hq
 ·exact wpOp_step hi (fun K' hK => h1 K' (fun a w hS hW => hK a w ⟨hS,hW⟩))
 ·rcases List.mem_cons.1 hq with rfl | hq
  ·exact wpOp_step hj (fun K' hK => h2 K' (fun a w hS hW => hK a w ⟨hS,hW⟩))
  ·obtain rfl := List.mem_singleton.1 hq
   exact wpOp_step hl (fun K' hK => h3 K' (fun a w hS hW => hK a w ⟨hS,hW⟩))
theorem wpAnyT_four {P : Program} {md : Region.Mode} {ops : Array Oper} {Q : Exit → Act → World → Prop} {S : World → Prop} {n i j l m : Nat} {oi oj ol om : Oper} {fuel : Nat} {listed : Array Bool} {a : Act} {w : World} (hr : Region.ready md ops listed = [i,j,l,m]) (hi : ops[i]? = some oi) (hj : ops[j]? = some oj) (hl : ops[l]? = some ol) (hm : ops[m]? = some om)
  (h1 : ∀ K' : Act → World → Prop,Shut (∀ a w,(i < n → S w) → znA P md ops Q S n fuel (listed.setIfInBounds i true) a w → K' a w) → if Region.wanted oi (yielded ops a.tmps) = true then Oper.wp P oi a w K' Q else K' (a.put oi.dst undef) w)
  (h2 : ∀ K' : Act → World → Prop,Shut (∀ a w,(j < n → S w) → znA P md ops Q S n fuel (listed.setIfInBounds j true) a w → K' a w) → if Region.wanted oj (yielded ops a.tmps) = true then Oper.wp P oj a w K' Q else K' (a.put oj.dst undef) w)
  (h3 : ∀ K' : Act → World → Prop,Shut (∀ a w,(l < n → S w) → znA P md ops Q S n fuel (listed.setIfInBounds l true) a w → K' a w) → if Region.wanted ol (yielded ops a.tmps) = true then Oper.wp P ol a w K' Q else K' (a.put ol.dst undef) w)
  (h4 : ∀ K' : Act → World → Prop,Shut (∀ a w,(m < n → S w) → znA P md ops Q S n fuel (listed.setIfInBounds m true) a w → K' a w) → if Region.wanted om (yielded ops a.tmps) = true then Oper.wp P om a w K' Q else K' (a.put om.dst undef) w) :
  znA P md ops Q S n (fuel + 1) listed a w := by
 refine ⟨fun h0 => (by rw [hr] at h0;cases h0),fun q hq => ?_⟩;rw [hr] at hq;rcases List.mem_cons.1 hq with rfl | hq
 ·exact wpOp_step hi (fun K' hK => h1 K' (fun a w hS hW => hK a w ⟨hS,hW⟩))
 ·rcases List.mem_cons.1 hq with rfl | hq
  ·exact wpOp_step hj (fun K' hK => h2 K' (fun a w hS hW => hK a w ⟨hS,hW⟩))
  ·rcases List.mem_cons.1 hq with rfl | hq
   ·exact wpOp_step hl (fun K' hK => h3 K' (fun a w hS hW => hK a w ⟨hS,hW⟩))
   ·obtain rfl := List.mem_singleton.1 hq
    exact wpOp_step hm (fun K' hK => h4 K' (fun a w hS hW => hK a w ⟨hS,hW⟩))
end Go.Proofs.YtfeofdpnhhiclaaGreat
