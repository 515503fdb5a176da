/-
 QTailLToTo18: TailL, Tail3, Mm18, To18, joined.
-/
import Derived.Test.YtmnecbniappnaaaGreatQFil9ToRowsOf9
import Derived.Test.YtmnecbniappnaaaGreatQDz12ToRl17
import Derived.Test.YtmnecbniappnaaaGreatQZModToLess6

set_option maxRecDepth 100000
set_option maxHeartbeats 6400000
set_option linter.unusedVariables false
set_option linter.unusedSimpArgs false
namespace Go.Proofs.YtmnecbniappnaaaGreat
open Go.RowKit
def okV (md : Region.Mode) (ops : Array Oper) (n : Nat) : Array Bool → List (Nat × Value) → Bool
 | _,[] => true
 | l,(i,_) :: r => (Region.noSelect ops && Region.free md ops l i && (Region.ready md ops l).contains i && Region.sinkB md ops n && Region.chainB md ops n && decide (n < ops.size) && decide (i < n) && zXH md ops n l) && okV md ops n (l.setIfInBounds i true) r
def lisV : Array Bool → List (Nat × Value) → Array Bool
 | l,[] => l
 | l,(i,_) :: r => lisV (l.setIfInBounds i true) r
def actV (ops : Array Oper) : Act → List (Nat × Value) → Act
 | a,[] => a
 | a,(i,v) :: r => match ops[i]? with
  | some o => actV ops (a.put o.dst v) r
  | none => a
def zSA (P : Program) (ops : Array Oper) (S : World → Prop) : Act → List (Nat × Value) → Prop
 | _,[] => True
 | a,(i,v) :: r => match ops[i]? with
  | some o => YieldsIf P ops S o v a ∧ zSA P ops S (a.put o.dst v) r
  | none => False
section
variable {P : Program} {ops : Array Oper} {Q : Exit → Act → World → Prop} {md : Region.Mode} {S : World → Prop} {n : Nat}
theorem zGD (hQ : ∀ c d v a w,Q (.panic c) (a.put d v) w → Q (.panic c) a w) : ∀ (vs : List (Nat × Value)) (fuel : Nat) (listed : Array Bool) (a : Act) (w : World),okV md ops n listed vs = true → zSA P ops S a vs → S w → zuA P md ops Q S n fuel (lisV listed vs) (actV ops a vs) w → zuA P md ops Q S n (fuel + vs.length) listed a w
 | [],fuel,listed,a,w,_,_,_,h => h
 | (i,v) :: r,fuel,listed,a,w,hok,hy,hS,h => by
  rw [okV,Bool.and_eq_true] at hok;cases e : ops[i]? with
  | none => simp only [zSA,e] at hy
  | some o =>
   simp only [zSA,e] at hy;simp only [actV,e,lisV] at h;exact zCA (fuel := fuel + r.length) e hok.1 (fun c a w hq => hQ c _ _ a w hq) hy.1 hS (zGD hQ r fuel _ _ w hok.2 hy.2 hS h)
theorem zHA {fuel : Nat} {listed : Array Bool} {a : Act} {w : World} (vs : List (Nat × Value)) (m : Nat) (hy : zSA P ops S a vs) (hS : S w)
  (h : zuA P md ops Q S n fuel (lisV listed vs) (actV ops a vs) w) (hm : vs.length = m := by rfl) (hok : okV md ops n listed vs = true := by kernel_rfl) (hQ : ∀ c d v a w,Q (.panic c) (a.put d v) w → Q (.panic c) a w := by (intro _ d _ _ _ h;cases d <;> exact h)) : zuA P md ops Q S n (fuel + m) listed a w := by
 subst hm;exact zGD hQ vs fuel listed a w hok hy hS h
end
theorem sI9 {α : Type _} (l : List α) (i : Nat) (a : α) : l.toArray.setIfInBounds i a = (l.set i a).toArray := List.setIfInBounds_toArray l i a
theorem s09 {α : Type _} {a b : α} {l : List α} : (a :: l).set 0 b = b :: l := List.set_cons_zero
theorem s19 {α : Type _} {a b : α} {n : Nat} {l : List α} : (a :: l).set (n + 1) b = a :: l.set n b := List.set_cons_succ
theorem g09 {α : Type _} {a : α} {l : List α} : (a :: l)[0]? = some a := List.getElem?_cons_zero
theorem g19 {α : Type _} {a : α} {n : Nat} {l : List α} : (a :: l)[n + 1]? = l[n]? := List.getElem?_cons_succ
theorem gA9 {α : Type _} {l : List α} {n : Nat} : l.toArray[n]? = l[n]? := List.getElem?_toArray
theorem zZB {P : Program} {md : Region.Mode} {ops : Array Oper} {Q : Exit → Act → World → Prop} {S : World → Prop} {n i j l : Nat} {oi oj ol : Oper} {fuel : Nat} {listed : Array Bool} {a : Act} {w : World} (hr : Region.ready md ops listed = [i,j,l]) (hi : ops[i]? = some oi) (hj : ops[j]? = some oj) (hl : ops[l]? = some ol)
  (h1 : ∀ K' : Act → World → Prop,Shut (∀ a w,(i < n → S w) → zuA P md ops Q S n fuel (listed.setIfInBounds i true) a w → K' a w) → if Region.wanted oi (yielded ops a.tmps) = true then Oper.wp P oi a w K' Q else K' (a.put oi.dst undef) w)
  (h2 : ∀ K' : Act → World → Prop,Shut (∀ a w,(j < n → S w) → zuA P md ops Q S n fuel (listed.setIfInBounds j true) a w → K' a w) → if Region.wanted oj (yielded ops a.tmps) = true then Oper.wp P oj a w K' Q else K' (a.put oj.dst undef) w)
  (h3 : ∀ K' : Act → World → Prop,Shut (∀ a w,(l < n → S w) → zuA P md ops Q S n fuel (listed.setIfInBounds l true) a w → K' a w) → if Region.wanted ol (yielded ops a.tmps) = true then Oper.wp P ol a w K' Q else K' (a.put ol.dst undef) w) :
  zuA P md ops Q S n (fuel + 1) listed a w := by
 refine ⟨fun h0 => (by rw [hr] at h0;cases h0),fun q hq => ?_⟩;rw [hr] at hq;rcases List.mem_cons.1 hq with rfl | hq
 ·exact wpOp_step hi (fun K' hK => h1 K' (fun a w hS hW => hK a w ⟨hS,hW⟩))
 ·rcases List.mem_cons.1 hq with rfl | hq
  ·exact wpOp_step hj (fun K' hK => h2 K' (fun a w hS hW => hK a w ⟨hS,hW⟩))
  ·obtain rfl := List.mem_singleton.1 hq
   exact wpOp_step hl (fun K' hK => h3 K' (fun a w hS hW => hK a w ⟨hS,hW⟩))
def mx18 (F0 F1 : Nat → Int) (j t : Nat) : Int := if t < j then F1 t else F0 t
theorem Duo.ty18 {w : World} {b : Nat} {x y : Value} (d : Duo w b x y) (u u' : Value) : Ty 40 w ((w.setCell ⟨b,0,none⟩ u).setCell ⟨b,1,none⟩ u') :=
 (Ty.set (L := [x,y]) d).trans (Ty.set (L := [u,y]) (by have := Duo.set0 d u;exact this))
theorem Rw17.more {w : World} {g n k l : Nat} {F : Nat → Int} (h : Rw17 w g n F k) (hl : k ≤ l) : Rw17 w g n F l := by
 obtain ⟨ps,h1,h2⟩ := h;exact ⟨ps,h1,h2.more hl⟩
def zVG (w : World) (gr n : Nat) (F : Nat → Int) (kw : Nat) (e : Ending) (w' : World) : Prop := e = .returned (.tuple #[]) ∧ Rw17 w' gr n F kw ∧ Touch (· = gr) w w'
theorem zsC {w w' : World} {g n k : Nat} {F : Nat → Int} (h : Rw17 w g n F k) (ht : Touch (· = g) w w') : Ty 40 w w' := by
 obtain ⟨ps,p,_⟩ := h;exact ht.ty13 p
theorem zhB {w w' : World} {g j : Nat} (h : Touch (· = g) w w') (x y : Value) : Touch (· = g) w ((w'.setCell ⟨g,j * 2,none⟩ x).setCell ⟨g,j * 2 + 1,none⟩ y) := (h.setCell (.inr rfl) _ _).setCell (.inr rfl) _ _
theorem znE {R F : Nat → Int} {n j t : Nat} (ht : t < n) (e : F j = R j) : mx18 R F j t = mx18 R F (j + 1) t := by
 unfold mx18
 by_cases q : t < j
 ·rw [if_pos q,if_pos (by omega)]
 ·rw [if_neg q]
  by_cases q2 : t = j
  ·subst q2;rw [if_pos (by omega),e]
  ·rw [if_neg (by omega)]
theorem zND {R F : Nat → Int} {n j t : Nat} (ht : t < n) : (if t = j then F j else mx18 R F j t) = mx18 R F (j + 1) t := by
 unfold mx18
 by_cases q2 : t = j
 ·subst q2;rw [if_pos rfl,if_pos (by omega)]
 ·rw [if_neg q2]
  by_cases q : t < j
  ·rw [if_pos q,if_pos (by omega)]
  ·rw [if_neg q,if_neg (by omega)]
theorem Touch.tyS18 {S : Nat → Prop} {T : TypeId} {w w' : World} (h : Touch S w w') (hS : ∀ b,S b → ∃ L,Cel w b T L) : Ty T w w' :=
 ⟨h.size,fun b L' T' fr e hne => (h.block b (Array.getElem?_eq_some_iff.1 e).1 (fun q => by
  obtain ⟨L,q'⟩ := hS b q;have := e.symm.trans (show w.heap[b]? = _ from q');simp only [Option.some.injEq,Obj.cells.injEq] at this;exact hne this.2.1)).trans e⟩
theorem Rw17.cel18 {w : World} {g n k : Nat} {F : Nat → Int} (h : Rw17 w g n F k) : ∃ L,Cel w g 40 L := by
 obtain ⟨ps,h1,_⟩ := h;exact ⟨_,h1.1⟩
abbrev zbC (g g' : Nat) : Nat → Prop := fun b => b = g ∨ b = g'
theorem Rw17.oth18 {S : Nat → Prop} {w w' : World} {g n k : Nat} {F : Nat → Int} (h : Rw17 w g n F k) (ht : Touch S w w') (hty : Ty 40 w w') (hn : ¬ S g) : Rw17 w' g n F k := by
 obtain ⟨ps,h1,h2⟩ := h;exact ⟨ps,⟨(ht.block g h1.1.blk hn).trans h1.1,h1.2⟩,h2.ty hty (by decide)⟩
def zeH (w : World) (gr gl n : Nat) (F G : Nat → Int) (kw : Nat) (e : Ending) (w' : World) : Prop := e = .returned (.tuple #[]) ∧ Rw17 w' gr n F kw ∧ Rw17 w' gl n G kw ∧ Touch (zbC gr gl) w w'
theorem Touch.mono18 {S S' : Nat → Prop} {w w' : World} (h : Touch S w w') (hS : ∀ b,S b → S' b) : Touch S' w w' := ⟨h.os,h.tape,h.output,h.size,fun b hb hn => h.block b hb fun q => hn (hS b q)⟩
def BX18 (W w : World) (l : List Nat) : Prop := Below W.heap.size W w ∧ (∀ b,b ∈ l → W.heap.size ≤ b ∧ Duo w b (.bool false) (.slice none 0 0)) ∧ l.Nodup
theorem BX18.nil {W w : World} (h : Below W.heap.size W w) : BX18 W w [] := ⟨h,fun b hb => (List.not_mem_nil hb).elim,List.nodup_nil⟩
theorem BX18.step {W w w' : World} {l : List Nat} (h : BX18 W w l) (b : Below w.heap.size w w') : BX18 W w' l := ⟨below_step h.1 b,fun x hx => ⟨(h.2.1 x hx).1,(h.2.1 x hx).2.step b⟩,h.2.2⟩
theorem BX18.new {W w : World} {l : List Nat} (h : BX18 W w l) : BX18 W (w.alloc zbox) (w.heap.size :: l) := by
 have k := (Below.refl w.heap.size w).alloc (Nat.le_refl _) zbox;refine ⟨below_step h.1 k,fun x hx => ?_,List.nodup_cons.2 ⟨fun q => ?_,h.2.2⟩⟩
 ·rcases List.mem_cons.1 hx with rfl | q
  ·exact ⟨h.1.size,Duo.new w _ _⟩
  ·exact ⟨(h.2.1 x q).1,(h.2.1 x q).2.step k⟩
 ·have := (h.2.1 _ q).2.blk
  omega
theorem BX18.two {W w : World} {a b : Nat} (h : BX18 W w [a,b]) : (W.heap.size ≤ a ∧ Duo w a (.bool false) (.slice none 0 0)) ∧ (W.heap.size ≤ b ∧ Duo w b (.bool false) (.slice none 0 0)) ∧ a ≠ b := ⟨h.2.1 a (by simp),h.2.1 b (by simp),by have := h.2.2;simp at this;exact this⟩
def zcI (w : World) (z : Int) (e : Ending) (w' : World) : Prop := e = .returned (.bool (decide (z = 0))) ∧ Below w.heap.size w w'
theorem cmpI_zero18 (z : Int) : decide (cmpI z 0 = 0) = decide (z = 0) := by
 unfold cmpI
 by_cases h : z = 0
 ·subst h;rfl
 ·have : ¬ cmpI z 0 = 0 := by unfold cmpI;split <;> (try split) <;> omega
  unfold cmpI at this;rw [decide_eq_false this,decide_eq_false h]
theorem zOD {w : World} {v : Value} {z : Int} {k : Nat} (h : Zi w v z k) : Calls Tryz.prog 62 #[v] w (zcI w z) := by
 obtain ⟨n,xs,a,c,rfl,s0,z0,k0⟩ := id h;obtain ⟨V1,hV⟩ : ∃ V1,w.alloc (duo (.bool n) (.slice a xs.length c)) = V1 := ⟨_,rfl⟩
 obtain ⟨b,sz1⟩ := alo1 w (duo (.bool n) (.slice a xs.length c));rw [hV] at b sz1;have PN : Hid (Duo V1 w.heap.size (.bool n) (.slice a xs.length c)) := by unfold Hid;rw [← hV];exact Duo.new w _ _
 have HS := hid (zqA (h.now b));have B1 := hid b;have EV := hid hV;have n0 := PN.out.c0;have n1 := PN.out.c1;rw [← hV] at n0 n1;clear h s0 z0 k0 b sz1 hV PN;go_enter Tryz.func62,Tryz.ntmps62;go_wp2_with fail;rw [EV.out];refine HS.out.mono ?_;rintro e w1 ⟨rfl,b⟩;have FF : Hid (zcI w z (.returned (.bool (decide (cmpI z 0 = 0)))) w1) := by
  unfold Hid;rw [cmpI_zero18];exact ⟨rfl,below_step B1.out b⟩
 clear HS EV B1 b n0 n1;go_wp2;go_ret;exact FF.out
def ziH (w : World) (gr n : Nat) (R F : Nat → Int) (kw gk : Nat) (s : Value) (wx : World) : Prop := ∃ j : Nat,s = .int .i64 (j : Int) ∧ j ≤ n ∧ gk = n - j ∧ Rw17 wx gr n (mx18 R F j) kw ∧ Touch (· = gr) w wx
theorem takeOff18 {n kw l gr gl lt ct : Nat} {w : World} {nt : Bool} {at0 : Option Addr} {s : Int} {L R : Nat → Int}
  (hR : Rw17 w gr n R kw) (hL : Rw17 w gl n L kw) (hne : gr ≠ gl) (ht : Zm 0 w (.agg #[.bool nt,.slice at0 lt ct]) s l)
  (hF : ∀ j,j < n → ((R j - s * L j).natAbs : Int) < pw kw) (hn : n ≤ 64) (hK : l + kw < 35184372088000) :
  Calls Tryz.prog 38 #[.slice (some ⟨gr,0,none⟩) n n,.slice (some ⟨gl,0,none⟩) n n,.agg #[.bool nt,.slice at0 lt ct]] w (zVG w gr n (fun j => R j - s * L j) kw) := by
 obtain ⟨F,hFe⟩ : ∃ F : Nat → Int,F = fun j => R j - s * L j := ⟨_,rfl⟩
 have hFj : ∀ j,F j = R j - s * L j := fun j => by rw [hFe]
 rw [← hFe];obtain ⟨V0,hV0⟩ : ∃ V0,w.alloc (duo (.bool nt) (.slice at0 lt ct)) = V0 := ⟨_,rfl⟩
 obtain ⟨b0,sz0⟩ := alo1 w (duo (.bool nt) (.slice at0 lt ct));rw [hV0] at b0 sz0;have hgw := hR.blk;have dT : Duo V0 w.heap.size (.bool nt) (.slice at0 lt ct) := by rw [← hV0];exact Duo.new w _ _
 have KS : Hid (∀ wx,Touch (· = gr) V0 wx → Rw17 wx gl n L kw ∧ Zm 0 wx (.agg #[.bool nt,.slice at0 lt ct]) s l ∧ Duo wx w.heap.size (.bool nt) (.slice at0 lt ct)) := fun wx htw => by
  have ty := zsC (hR.now b0) htw;obtain ⟨ps,p1,p2⟩ := hR.now b0;exact ⟨(hL.now b0).touch htw p1 (fun e => hne e.symm),(ht.now b0).ty ty (by decide),(htw.block _ dT.blk (by omega)).trans dT⟩
 have H0 : Hid (ziH V0 gr n R F kw n (.int .i64 ((0 : Nat) : Int)) V0) := ⟨0,rfl,Nat.zero_le _,rfl,(hR.now b0).congr fun j hj => by unfold mx18;rw [if_neg (by omega)],Touch.refl _ _⟩
 have HF := hid hF;have HFJ := hid hFj;have HKK := hid hK;have FIN : Hid (∀ wx,Rw17 wx gr n (mx18 R F n) kw → Touch (· = gr) V0 wx → zVG w gr n F kw (.returned (.tuple #[])) wx) := fun wx h1 h2 => ⟨rfl,h1.congr fun j hj => if_pos hj,(Touch.ofBelow b0).trans h2⟩
 have EV0 := hid hV0;obtain ⟨bx,hbx⟩ : ∃ bx,w.heap.size = bx := ⟨_,rfl⟩
 rw [hbx] at KS;have EBX := hid hbx;clear hR hL hne ht hF hFe hFj hK b0 sz0 hV0 dT hgw hbx;go_enter Tryz.func38,Tryz.ntmps38;go_wp2_with fail;rw [EV0.out,EBX.out]
 go_loopg [10] n (fun gk s8 wx => ziH V0 gr n R F kw gk s8 wx)
 case atStart => exact H0.out
 case round =>
  clear H0;obtain ⟨j,rfl,hjn,hgk,hrw,htw⟩ := hrel;have RW := hid hrw;have TW := hid htw;have HG := hid hgk;clear hrw htw hgk
  by_cases hlt : j < n
  ·have hlt' : (j : Int) < (n : Int) := by omega
   obtain ⟨k3,k4,k5⟩ := KS.out _ TW.out;obtain ⟨nn,an,ln,cn,q0,q1,-,-,zn⟩ := k3.at hlt;obtain ⟨V1,hV⟩ : ∃ V1,wr.alloc (duo (.bool nn) (.slice an ln cn)) = V1 := ⟨_,rfl⟩
   obtain ⟨b,sz1⟩ := alo1 wr (duo (.bool nn) (.slice an ln cn));rw [hV] at b sz1;have PN : Hid (Duo V1 wr.heap.size (.bool nn) (.slice an ln cn)) := by unfold Hid;rw [← hV];exact Duo.new wr _ _
   have RW1 := hid (RW.out.now b);have ZN := hid (zn.now b);have ZT := hid (k4.now b);have DT := hid (k5.step b);have TV1 : Hid (Touch (· = gr) V0 V1) := TW.out.trans (.ofBelow b);have HMM : Hid (n - (j + 1) < gk) := by unfold Hid;rw [HG.out];omega
   have hwj := zVA (i := j) (by omega);have EV := hid hV;have HSG := hid (zOD ZN.out.zi);have n0 := PN.out.c0;have n1 := PN.out.c1;rw [← hV] at n0 n1;obtain ⟨bn,hbn⟩ : ∃ bn,wr.heap.size = bn := ⟨_,rfl⟩
   rw [hbn] at PN n0 n1;have EBN := hid hbn;clear k3 k4 k5 zn b sz1 hV HG hbn TW RW;go_wp2_with fail;rw [EV.out,EBN.out];refine HSG.out.mono ?_;rintro e w2 ⟨rfl,b⟩;replace PN := hid (PN.out.step b);replace RW1 := hid (RW1.out.now b);replace ZN := hid (ZN.out.now b);replace ZT := hid (ZT.out.now b);replace DT := hid (DT.out.step b);replace TV1 : Hid (Touch (· = gr) V0 w2) := TV1.out.trans (.ofBelow b);clear HSG EV EBN b n0 n1 q0 q1
   by_cases hz : L j = 0
   ·have HN1 : Hid (ziH V0 gr n R F kw (n - (j + 1)) (.int .i64 ((j + 1 : Nat) : Int)) w2) := ⟨j + 1,rfl,by omega,rfl,RW1.out.congr fun t ht => znE ht (by rw [HFJ.out,hz];omega),TV1.out⟩
    have hs0 : decide (L j = 0) = true := by rw [hz];rfl
    rw [hs0];clear PN RW1 ZN ZT DT TV1 hz hs0;go_wp2_with fail;go_roundg (n - (j + 1))
    case rel => exact HN1.out
    case measure => exact HMM.out
   ·have hs0 : decide (L j = 0) = false := decide_eq_false hz
    rw [hs0];obtain ⟨nx,ax,lx,cx,x0,x1,-,-,zx⟩ := RW1.out.at hlt;have ex : mx18 R F j j = R j := if_neg (by omega);rw [ex] at zx;have ZX := hid zx;have t0 := DT.out.c0;have t1 := DT.out.c1;have n0 := PN.out.c0;have n1 := PN.out.c1;clear hz zx ex hs0;go_wp2_with fail;have KB : Hid (∀ w',Below w2.heap.size w2 w' → w'.cell? ⟨gr,j * 2,none⟩ = some (.bool nx) ∧ w'.cell? ⟨gr,j * 2 + 1,none⟩ = some (.slice ax lx cx) ∧ w'.cell? ⟨bx,0,none⟩ = some (.bool nt) ∧ w'.cell? ⟨bx,1,none⟩ = some (.slice at0 lt ct) ∧ w'.cell? ⟨bn,0,none⟩ = some (.bool nn) ∧ w'.cell? ⟨bn,1,none⟩ = some (.slice an ln cn)) := fun w' h => ⟨cnow h x0,cnow h x1,cnow h t0,cnow h t1,cnow h n0,cnow h n1⟩
    refine zFA (fun w' => w'.cell? ⟨gr,j * 2,none⟩ = some (.bool nx) ∧ w'.cell? ⟨gr,j * 2 + 1,none⟩ = some (.slice ax lx cx) ∧ w'.cell? ⟨bx,0,none⟩ = some (.bool nt) ∧ w'.cell? ⟨bx,1,none⟩ = some (.slice at0 lt ct) ∧ w'.cell? ⟨bn,0,none⟩ = some (.bool nn) ∧ w'.cell? ⟨bn,1,none⟩ = some (.slice an ln cn)) 11 (by kernel_rfl) ?_;obtain ⟨D1,hD⟩ : ∃ D1,w2.drew = D1 := ⟨_,rfl⟩
    have GB : Hid (Below w2.heap.size w2 D1) := by unfold Hid;rw [← hD];exact (Below.refl _ _).drew
    rw [hD];clear hD;refine zHA [(0,(.slice (some ⟨gr,0,none⟩) n n)),(1,(.int .i64 (j : Int))),(2,(.slice (some ⟨gr,0,none⟩) n n)),(3,(.int .i64 (j : Int))),(4,(.pointer (some ⟨gr,j * 2,none⟩))),(5,(.agg #[.bool nx,.slice ax lx cx])),(6,(.agg #[.bool nt,.slice at0 lt ct])),(7,(.agg #[.bool nn,.slice an ln cn]))] 8 ?_ (KB.out _ GB.out) ?_
    ·simp only [zSA,gA9,g09,g19,Act.put,sI9,s09,s19]
     (repeat' (first | exact trivial | refine And.intro (Or.inl ⟨by rfl,?_⟩) ?_)) <;> (intro w hSw;(try dsimp only at hSw);go_simp)
    simp only [actV,gA9,g09,g19,Act.put,sI9,s09,s19];refine zAA (i := 8) (o := ⟨some 26,.call { callee := .value (.func 64),args := #[.tmp 24,.tmp 25],argTypes := #[40,40] },40, "lines.go:49",#[⟨6,.data⟩,⟨7,.data⟩],none⟩) (by kernel_rfl) rfl (fun K hK => ?_);go_simp;go_at_call 64;refine (zoE (ZT.out.now GB.out).zi (ZN.out.now GB.out).zi (by have := HKK.out;omega)).mono ?_;rintro e w2 ⟨r1,rfl,m1,b⟩;have lz2 := (show Below _ _ _ from b).size;replace GB := hid (below_step GB.out b);have M1 := hid (m1.mono (Nat.zero_le _));clear m1;clear b;refine hK.out _ _ (fun _ => KB.out _ GB.out) ?_;clear hK;refine zAA (i := 9) (o := ⟨some 27,.call { callee := .value (.func 63),args := #[.tmp 23,.tmp 26],argTypes := #[40,40] },40, "lines.go:49",#[⟨5,.data⟩,⟨8,.data⟩,⟨8,.chain⟩],none⟩) (by kernel_rfl) rfl (fun K hK => ?_);go_simp;go_at_call 63;refine (zTG (ZX.out.now GB.out).zi M1.out.zi (by have := HKK.out;omega) (by have := HKK.out;omega)).mono ?_;rintro e w3 ⟨r2,rfl,m1,b⟩;have lz3 := (show Below _ _ _ from b).size;replace GB := hid (below_step GB.out b);have M2 := hid ((m1.mono (Nat.zero_le _)).fit (l := kw) (HF.out j hlt));obtain ⟨nr,xr,ar,cr,rfl⟩ := m1.parts;have RW2 := hid (RW1.out.now GB.out);have TV2 : Hid (Touch (· = gr) V0 w3) := TV1.out.trans (.ofBelow GB.out);clear m1 M1;clear b;refine hK.out _ _ (fun _ => KB.out _ GB.out) ?_;clear hK;refine zHA [(10,(.pointer (some ⟨gr,j * 2,none⟩)))] 1 ?_ (KB.out _ GB.out) ?_
    ·simp only [zSA,gA9,g09,g19,Act.put,sI9,s09,s19]
     (repeat' (first | exact trivial | refine And.intro (Or.inl ⟨by rfl,?_⟩) ?_)) <;> (intro w hSw;(try dsimp only at hSw);go_simp)
    simp only [actV,gA9,g09,g19,Act.put,sI9,s09,s19];refine zAA (i := 11) (o := ⟨none,.store 40 (.tmp 28) (.tmp 27),0, "lines.go:49",#[⟨10,.data⟩,⟨9,.data⟩,⟨9,.chain⟩,⟨0,.phase⟩,⟨1,.phase⟩,⟨2,.phase⟩,⟨3,.phase⟩,⟨4,.phase⟩,⟨5,.phase⟩,⟨6,.phase⟩,⟨7,.phase⟩,⟨8,.phase⟩,⟨9,.phase⟩],none⟩) (by kernel_rfl) rfl (fun K hK => ?_);obtain ⟨_,_,_,_,e0,e1,e2,e3,-⟩ := RW2.out.at hlt;go_simp;clear e0 e1 e2 e3;obtain ⟨V4,hW⟩ : ∃ V4,((w3.setCell ⟨gr,j * 2,none⟩ (.bool nr)).setCell ⟨gr,j * 2 + 1,none⟩ (.slice ar xr.length cr)) = V4 := ⟨_,rfl⟩
    have HN1 : Hid (ziH V0 gr n R F kw (n - (j + 1)) (.int .i64 ((j + 1 : Nat) : Int)) V4) := by
     unfold Hid;rw [← hW];have hm := M2.out;rw [← HFJ.out j] at hm;exact ⟨j + 1,rfl,by omega,rfl,(RW2.out.put hlt hm).1.congr fun t ht => zND ht,zhB TV2.out _ _⟩
    rw [hW];clear hW;refine hK.out _ _ (fun h => absurd h (by decide)) ?_;clear hK
    try simp only [Act.put]
    refine zDA (by kernel_rfl) ?_ _;clear GB KB M2 RW2 TV2 PN RW1 ZN ZT DT TV1 ZX t0 t1 n0 n1 x0 x1;go_wp2_with fail;go_roundg (n - (j + 1))
    case rel => exact HN1.out
    case measure => exact HMM.out
  ·have hlt' : ¬ (j : Int) < (n : Int) := by omega
   obtain rfl : j = n := by omega
   have FF := hid (FIN.out wr RW.out TW.out);clear RW TW HG FIN;go_wp2;go_end0;exact FF.out
end Go.Proofs.YtmnecbniappnaaaGreat
