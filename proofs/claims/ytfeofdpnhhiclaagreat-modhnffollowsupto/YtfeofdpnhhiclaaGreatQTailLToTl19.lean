/-
 QTailLToTl19: TailL, Tl19, joined.
-/
import Derived.Test.YtfeofdpnhhiclaaGreatQFil9ToRowsOf9
import Derived.Test.YtfeofdpnhhiclaaGreatQOf11ToDz12

set_option maxRecDepth 100000
set_option maxHeartbeats 6400000
set_option linter.unusedVariables false
set_option linter.unusedSimpArgs false
namespace Go.Proofs.YtfeofdpnhhiclaaGreat
open Go.RowKit
def okV (md : Region.Mode) (ops : Array Oper) (n : Nat) : Array Bool → List (Nat × Value) → Bool
 | _,[] => true
 | l,(i,_) :: r => (Region.noSelect ops && Region.free md ops l i && (Region.ready md ops l).contains i && Region.sinkB md ops n && Region.chainB md ops n && decide (n < ops.size) && decide (i < n) && zEH md ops n l) && okV md ops n (l.setIfInBounds i true) r
def lisV : Array Bool → List (Nat × Value) → Array Bool
 | l,[] => l
 | l,(i,_) :: r => lisV (l.setIfInBounds i true) r
def actV (ops : Array Oper) : Act → List (Nat × Value) → Act
 | a,[] => a
 | a,(i,v) :: r => match ops[i]? with
  | some o => actV ops (a.put o.dst v) r
  | none => a
def zPA (P : Program) (ops : Array Oper) (S : World → Prop) : Act → List (Nat × Value) → Prop
 | _,[] => True
 | a,(i,v) :: r => match ops[i]? with
  | some o => YieldsIf P ops S o v a ∧ zPA P ops S (a.put o.dst v) r
  | none => False
section
variable {P : Program} {ops : Array Oper} {Q : Exit → Act → World → Prop} {md : Region.Mode} {S : World → Prop} {n : Nat}
theorem zHD (hQ : ∀ c d v a w,Q (.panic c) (a.put d v) w → Q (.panic c) a w) : ∀ (vs : List (Nat × Value)) (fuel : Nat) (listed : Array Bool) (a : Act) (w : World),okV md ops n listed vs = true → zPA P ops S a vs → S w → znA P md ops Q S n fuel (lisV listed vs) (actV ops a vs) w → znA P md ops Q S n (fuel + vs.length) listed a w
 | [],fuel,listed,a,w,_,_,_,h => h
 | (i,v) :: r,fuel,listed,a,w,hok,hy,hS,h => by
  rw [okV,Bool.and_eq_true] at hok;cases e : ops[i]? with
  | none => simp only [zPA,e] at hy
  | some o =>
   simp only [zPA,e] at hy;simp only [actV,e,lisV] at h;exact zBA (fuel := fuel + r.length) e hok.1 (fun c a w hq => hQ c _ _ a w hq) hy.1 hS (zHD hQ r fuel _ _ w hok.2 hy.2 hS h)
theorem zEA {fuel : Nat} {listed : Array Bool} {a : Act} {w : World} (vs : List (Nat × Value)) (m : Nat) (hy : zPA P ops S a vs) (hS : S w)
  (h : znA P md ops Q S n fuel (lisV listed vs) (actV ops a vs) w) (hm : vs.length = m := by rfl) (hok : okV md ops n listed vs = true := by kernel_rfl) (hQ : ∀ c d v a w,Q (.panic c) (a.put d v) w → Q (.panic c) a w := by (intro _ d _ _ _ h;cases d <;> exact h)) : znA P md ops Q S n (fuel + m) listed a w := by
 subst hm;exact zHD hQ vs fuel listed a w hok hy hS h
end
theorem sI9 {α : Type _} (l : List α) (i : Nat) (a : α) : l.toArray.setIfInBounds i a = (l.set i a).toArray := List.setIfInBounds_toArray l i a
theorem s09 {α : Type _} {a b : α} {l : List α} : (a :: l).set 0 b = b :: l := List.set_cons_zero
theorem s19 {α : Type _} {a b : α} {n : Nat} {l : List α} : (a :: l).set (n + 1) b = a :: l.set n b := List.set_cons_succ
theorem g09 {α : Type _} {a : α} {l : List α} : (a :: l)[0]? = some a := List.getElem?_cons_zero
theorem g19 {α : Type _} {a : α} {n : Nat} {l : List α} : (a :: l)[n + 1]? = l[n]? := List.getElem?_cons_succ
theorem gA9 {α : Type _} {l : List α} {n : Nat} : l.toArray[n]? = l[n]? := List.getElem?_toArray
end Go.Proofs.YtfeofdpnhhiclaaGreat
namespace Go.Proofs.YtfeofdpnhhiclaaGreat
def Cm19 (m n : Nat) (L : Nat → Nat → Int) (v : Nat → Int) : Prop := ∃ z : Nat → Int,∀ j,j < n → v j = su m fun i => z i * L i j
theorem Cm19.congr {m n : Nat} {L : Nat → Nat → Int} {u v : Nat → Int} (h : Cm19 m n L u) (e : ∀ j,j < n → v j = u j) : Cm19 m n L v := by
 obtain ⟨z,hz⟩ := h;exact ⟨z,fun j hj => (e j hj).trans (hz j hj)⟩
theorem Cm19.zero (m n : Nat) (L : Nat → Nat → Int) : Cm19 m n L fun _ => 0 := ⟨fun _ => 0,fun j _ => (zxC fun i _ => by simp).symm⟩
theorem Cm19.add {m n : Nat} {L : Nat → Nat → Int} {u v : Nat → Int} (h : Cm19 m n L u) (k : Cm19 m n L v) : Cm19 m n L fun j => u j + v j := by
 obtain ⟨z,hz⟩ := h;obtain ⟨y,hy⟩ := k;refine ⟨fun i => z i + y i,fun j hj => ?_⟩
 show u j + v j = _
 rw [hz j hj,hy j hj,← zlF];exact zaA fun i _ => by rw [Int.add_mul]
theorem Cm19.mul {m n : Nat} {L : Nat → Nat → Int} {v : Nat → Int} (h : Cm19 m n L v) (x : Int) : Cm19 m n L fun j => x * v j := by
 obtain ⟨z,hz⟩ := h;refine ⟨fun i => x * z i,fun j hj => ?_⟩
 show x * v j = _
 rw [hz j hj,← zJD];exact zaA fun i _ => by rw [Int.mul_assoc]
theorem Cm19.row {m n i : Nat} (L : Nat → Nat → Int) (hi : i < m) : Cm19 m n L (L i) := by
 refine ⟨fun k => dlz k i,fun j hj => ?_⟩;rw [zIB hi fun k _ hk => by simp [dlz,hk]];simp [dlz]
theorem Cm19.su {m n : Nat} {L : Nat → Nat → Int} {V : Nat → Nat → Int} {q : Nat → Int} : ∀ {s : Nat},(∀ k,k < s → q k = 0 ∨ Cm19 m n L (V k)) → Cm19 m n L fun j => Proofs.YtfeofdpnhhiclaaGreat.su s fun k => q k * V k j
 | 0,_ => Cm19.zero m n L
 | s + 1,h => by
  refine (Cm19.su (s := s) fun k hk => h k (by omega)).add ?_;rcases h s (by omega) with e | e
  ·exact (Cm19.zero m n L).congr fun j _ => by show q s * V s j = 0;rw [e,Int.zero_mul]
  ·exact e.mul _
theorem Cm19.trans {m n k : Nat} {L K : Nat → Nat → Int} {v : Nat → Int} (h : Cm19 k n K v) (hK : ∀ i,i < k → Cm19 m n L (K i)) : Cm19 m n L v := by
 obtain ⟨z,hz⟩ := h;exact (Cm19.su (q := z) (V := K) fun i hi => .inr (hK i hi)).congr hz
theorem Cm19.more {m n : Nat} {L : Nat → Nat → Int} {v : Nat → Int} (h : Cm19 m n L v) (k : Nat) (hk : m ≤ k) : Cm19 k n L v := h.trans fun i hi => Cm19.row L (by omega)
theorem Cm19.units {m n c : Nat} {L : Nat → Nat → Int} {D : Int} (h : ∀ j,c ≤ j → j < n → Cm19 m n L fun t => D * dlz j t) (q : Nat → Int) (hq : ∀ t,t < c → q t = 0) : Cm19 m n L fun t => D * q t := by
 refine (Cm19.su (s := n) (q := q) (V := fun j t => D * dlz j t) fun k hk => ?_).congr fun t ht => ?_
 ·by_cases e : k < c
  ·exact .inl (hq k e)
  ·exact .inr (h k (by omega) hk)
 ·rw [zIB ht fun k _ hk => by simp [dlz,hk]]
  simp [dlz,Int.mul_comm]
structure Tr19 (n : Nat) (L : Nat → Nat → Int) : Prop where
 low : ∀ i j,i < n → j < i → L i j = 0
 piv : ∀ i,i < n → 0 < L i i
theorem Tr19.first {n c : Nat} {L : Nat → Nat → Int} (h : Tr19 n L) {v z : Nat → Int} (hz : ∀ j,j < n → v j = su n fun i => z i * L i j) (hc : c ≤ n) (hv : ∀ j,j < c → v j = 0) : ∀ i,i < c → z i = 0 := by
 intro i
 induction i using Nat.strongRecOn with
 | ind i ih =>
  intro hi;have e := hz i (by omega);rw [hv i hi,zIB (i := i) (by omega) fun k hk hne => ?_] at e
  ·have := h.piv i (by omega)
   rcases Int.mul_eq_zero.1 e.symm with q | q
   ·exact q
   ·omega
  ·by_cases q : k < i
   ·rw [ih k q (by omega),Int.zero_mul]
   ·rw [h.low k i hk (by omega),Int.mul_zero]
theorem Tr19.at {n c : Nat} {L : Nat → Nat → Int} (h : Tr19 n L) {v z : Nat → Int} (hz : ∀ j,j < n → v j = su n fun i => z i * L i j) (hc : c < n) (hv : ∀ j,j < c → v j = 0) : v c = z c * L c c := by
 have f := h.first hz (Nat.le_of_lt hc) hv;rw [hz c hc,zIB hc fun k hk hne => ?_]
 by_cases q : k < c
 ·rw [f k q,Int.zero_mul]
 ·rw [h.low k c hk (by omega),Int.mul_zero]
structure Rd19 (n : Nat) (L : Nat → Nat → Int) : Prop where
 tri : Tr19 n L
 red : ∀ i j,i < j → j < n → 0 ≤ L i j ∧ L i j < L j j
theorem Rd19.one {n : Nat} {H G : Nat → Nat → Int} (hH : Rd19 n H) (hG : Rd19 n G) (h1 : ∀ i,i < n → Cm19 n n G (H i)) (h2 : ∀ i,i < n → Cm19 n n H (G i)) : ∀ i j,i < n → j < n → H i j = G i j := by
 have hp : ∀ i,i < n → H i i = G i i := fun i hi => by
  obtain ⟨z,hz⟩ := h1 i hi;obtain ⟨y,hy⟩ := h2 i hi;have e1 := hG.tri.at hz hi fun j hj => hH.tri.low i j hi hj
  have e2 := hH.tri.at hy hi fun j hj => hG.tri.low i j hi hj
  have p1 := hH.tri.piv i hi;have p2 := hG.tri.piv i hi;have d1 : G i i ∣ H i i := ⟨z i,by rw [e1,Int.mul_comm]⟩
  have d2 : H i i ∣ G i i := ⟨y i,by rw [e2,Int.mul_comm]⟩
  exact Int.dvd_antisymm (by omega) (by omega) d2 d1
 intro i j hi hj;obtain ⟨z,hz⟩ := (h1 i hi).add ((Cm19.row G hi).mul (-1));have key : ∀ c,c ≤ n → ∀ j,j < c → H i j + -1 * G i j = 0 := by
  intro c
  induction c with
  | zero => intro _ j hj;omega
  | succ c ih =>
   intro hc j hj
   by_cases q : j < c
   ·exact ih (by omega) j q
   ·obtain rfl : j = c := by omega
    by_cases q : j < i
    ·rw [hH.tri.low i j hi q,hG.tri.low i j hi q];rfl
    ·by_cases q2 : j = i
     ·subst q2;rw [hp j hi];omega
     ·have e := hG.tri.at hz (show j < n by omega) fun t ht => ih (by omega) t ht
      have a := hH.red i j (by omega) (by omega);have b := hG.red i j (by omega) (by omega);rw [hp j (by omega)] at a;have e' : H i j + -1 * G i j = z j * G j j := e;have hz0 : z j = 0 := by
       rcases Int.lt_trichotomy (z j) 0 with s | s | s
       ·have : z j * G j j ≤ -1 * G j j := Int.mul_le_mul_of_nonneg_right (by omega) (by omega)
        omega
       ·exact s
       ·have : 1 * G j j ≤ z j * G j j := Int.mul_le_mul_of_nonneg_right (by omega) (by omega)
        omega
      rw [e',hz0,Int.zero_mul]
 have := key n (Nat.le_refl _) j hj;omega
def Ow19 (n c : Nat) (D : Int) (L : Nat → Nat → Int) : Prop := ∀ j,c ≤ j → j < n → ∃ z : Nat → Int,(∀ i,i < j → z i = 0) ∧ ∀ t,t < n → D * dlz j t = su n fun i => z i * L i t
theorem Ow19.cm {n c m : Nat} {D : Int} {L K : Nat → Nat → Int} (h : Ow19 n c D L) (hm : n ≤ m) (e : ∀ i t,c ≤ i → i < n → t < n → K i t = L i t) (q : Nat → Int) (hq : ∀ t,t < c → q t = 0) : Cm19 m n K fun t => D * q t := by
 refine Cm19.units (c := c) (fun j hj hjn => ?_) q hq;obtain ⟨z,z1,z2⟩ := h j hj hjn;have : Cm19 n n K fun t => D * dlz j t := ⟨z,fun t ht => by
  show D * dlz j t = _
  rw [z2 t ht];refine zaA fun i hi => ?_
  by_cases q : i < j
  ·rw [z1 i q,Int.zero_mul,Int.zero_mul]
  ·rw [e i t (by omega) hi ht]⟩
 exact this.more m hm
theorem Ow19.of {n : Nat} {D : Int} {L : Nat → Nat → Int} (h : Tr19 n L) (hD : ∀ j,j < n → Cm19 n n L fun t => D * dlz j t) : Ow19 n 0 D L := by
 intro j _ hj;obtain ⟨z,hz⟩ := hD j hj;exact ⟨z,h.first (v := fun t => D * dlz j t) hz (Nat.le_of_lt hj) fun t ht => by simp [dlz,show j ≠ t by omega],hz⟩
theorem Ow19.up {n c d : Nat} {D : Int} {L : Nat → Nat → Int} (h : Ow19 n c D L) (hd : c ≤ d) : Ow19 n d D L := fun j hj => h j (by omega)
theorem Ow19.keep {n c : Nat} {D : Int} {L K : Nat → Nat → Int} (h : Ow19 n c D L) (e : ∀ i t,c ≤ i → i < n → t < n → K i t = L i t) : Ow19 n c D K := fun j hj hjn => by
 obtain ⟨z,z1,z2⟩ := h j hj hjn;refine ⟨z,z1,fun t ht => (z2 t ht).trans (zaA fun i hi => ?_)⟩
 by_cases q : i < j
 ·rw [z1 i q,Int.zero_mul,Int.zero_mul]
 ·rw [e i t (by omega) hi ht]
def ex19 (n : Nat) (L : Nat → Nat → Int) (R : Nat → Int) : Nat → Nat → Int := fun i j => if i = n then R j else L i j
theorem zoC (n : Nat) (L : Nat → Nat → Int) (R : Nat → Int) : ex19 n L R n = R := by funext j;simp [ex19]
theorem zBC {n i : Nat} (hi : i < n) (L : Nat → Nat → Int) (R : Nat → Int) : ex19 n L R i = L i := by funext j;simp [ex19,show i ≠ n by omega]
theorem Cm19.exRow {n : Nat} (L : Nat → Nat → Int) (R : Nat → Int) : Cm19 (n + 1) n (ex19 n L R) R := by
 have := Cm19.row (m := n + 1) (n := n) (i := n) (ex19 n L R) (by omega)
 rwa [zoC] at this
theorem Cm19.exLine {n i : Nat} (L : Nat → Nat → Int) (R : Nat → Int) (hi : i < n) : Cm19 (n + 1) n (ex19 n L R) (L i) := by
 have := Cm19.row (m := n + 1) (n := n) (i := i) (ex19 n L R) (by omega)
 rwa [zBC hi] at this
theorem Cm19.exTrans {n : Nat} {L K : Nat → Nat → Int} {R Q v : Nat → Int} (h : Cm19 (n + 1) n (ex19 n K Q) v) (hK : ∀ i,i < n → Cm19 (n + 1) n (ex19 n L R) (K i)) (hQ : Cm19 (n + 1) n (ex19 n L R) Q) : Cm19 (n + 1) n (ex19 n L R) v := by
 refine h.trans fun i hi => ?_
 by_cases e : i = n
 ·subst e;rw [zoC];exact hQ
 ·rw [zBC (by omega)];exact hK i (by omega)
structure Pt19 (n c : Nat) (D : Int) (L : Nat → Nat → Int) (R : Nat → Int) (P : (Nat → Int) → Prop) : Prop where
 tri : Tr19 n L
 le : ∀ i j,i < n → j < n → 0 ≤ L i j ∧ L i j ≤ D
 zero : ∀ j,j < c → j < n → R j = 0
 own : Ow19 n c D L
 lat : ∀ v,P v ↔ Cm19 (n + 1) n (ex19 n L R) v
theorem Pt19.rest {n c : Nat} {D : Int} {L : Nat → Nat → Int} {R R' : Nat → Int} {P : (Nat → Int) → Prop} (h : Pt19 n c D L R P) (q : Nat → Int) (hq : ∀ t,t < c → q t = 0) (hR : ∀ t,t < n → R' t = R t + D * q t) : Pt19 n c D L R' P := by
 refine ⟨h.tri,h.le,fun j hj hjn => by rw [hR j hjn,h.zero j hj hjn,hq j hj];simp,h.own,fun v => (h.lat v).trans ⟨fun k => ?_,fun k => ?_⟩⟩
 ·refine k.exTrans (fun i hi => Cm19.exLine L R' hi) ?_
  have := (Cm19.exRow (n := n) L R').add ((h.own.cm (m := n + 1) (K := ex19 n L R') (by omega) (fun i t _ hi _ => by rw [zBC hi]) q hq).mul (-1));exact this.congr fun t ht => by rw [hR t ht];grind
 ·refine k.exTrans (fun i hi => Cm19.exLine L R hi) ?_
  have := (Cm19.exRow (n := n) L R).add (h.own.cm (m := n + 1) (K := ex19 n L R) (by omega) (fun i t _ hi _ => by rw [zBC hi]) q hq);exact this.congr fun t ht => hR t ht
theorem Pt19.skip {n c : Nat} {D : Int} {L : Nat → Nat → Int} {R : Nat → Int} {P : (Nat → Int) → Prop} (h : Pt19 n c D L R P) (h0 : c < n → R c = 0) : Pt19 n (c + 1) D L R P :=
 ⟨h.tri,h.le,fun j hj hjn => by
  by_cases q : j = c
  ·subst q;exact h0 hjn
  ·exact h.zero j (by omega) hjn,h.own.up (by omega),h.lat⟩
theorem Pt19.less {n c : Nat} {D s : Int} {L : Nat → Nat → Int} {R R' : Nat → Int} {P : (Nat → Int) → Prop} (h : Pt19 n c D L R P) (hc : c < n) (hs : R c = s * L c c) (hR : ∀ t,t < n → R' t = if t < c then R t else R t - s * L c t) : Pt19 n (c + 1) D L R' P := by
 have hR2 : ∀ t,t < n → R' t = R t - s * L c t := fun t ht => by
  rw [hR t ht]
  by_cases q : t < c
  ·rw [if_pos q,h.tri.low c t hc q];omega
  ·rw [if_neg q]
 refine ⟨h.tri,h.le,fun j hj hjn => ?_,h.own.up (by omega),fun v => (h.lat v).trans ⟨fun k => ?_,fun k => ?_⟩⟩
 ·rw [hR2 j hjn]
  by_cases q : j = c
  ·subst q;rw [hs];omega
  ·rw [h.zero j (by omega) hjn,h.tri.low c j hc (by omega)];omega
 ·refine k.exTrans (fun i hi => Cm19.exLine L R' hi) ?_
  exact ((Cm19.exRow (n := n) L R').add ((Cm19.exLine L R' hc).mul s)).congr fun t ht => by rw [hR2 t ht];omega
 ·refine k.exTrans (fun i hi => Cm19.exLine L R hi) ?_
  exact ((Cm19.exRow (n := n) L R).add ((Cm19.exLine L R hc).mul (-s))).congr fun t ht => by rw [hR2 t ht];grind
theorem Pt19.mix {n c : Nat} {D x y u v : Int} {L L' : Nat → Nat → Int} {R R' p q : Nat → Int} {P : (Nat → Int) → Prop} (h : Pt19 n c D L R P) (hc : c < n) (hd : x * v - y * u = 1)
  (hp : ∀ t,t ≤ c → p t = 0) (hq : ∀ t,t ≤ c → q t = 0) (hL : ∀ t,t < n → L' c t = x * L c t + y * R t + D * p t) (hR : ∀ t,t < n → R' t = u * L c t + v * R t + D * q t) (hk : ∀ i,i ≠ c → L' i = L i)
  (hg : 0 < L' c c) (h0 : R' c = 0) (hle : ∀ t,t < n → 0 ≤ L' c t ∧ L' c t ≤ D) : Pt19 n (c + 1) D L' R' P := by
 have ho := h.own.up (show c ≤ c + 1 by omega);have hkeep : ∀ i t,c + 1 ≤ i → i < n → t < n → L' i t = L i t := fun i t hi _ _ => by rw [hk i (by omega)]
 have z1 : ∀ t,t < c → t < n → L c t = 0 := fun t ht _ => h.tri.low c t hc ht
 refine ⟨⟨fun i j hi hj => ?_,fun i hi => ?_⟩,fun i j hi hj => ?_,fun j hj hjn => ?_,ho.keep hkeep,fun w => (h.lat w).trans ⟨fun k => ?_,fun k => ?_⟩⟩
 ·by_cases e : i = c
  ·subst e
   rw [hL j (by omega),z1 j hj (by omega),h.zero j hj (by omega),hp j (by omega)];simp
  ·rw [hk i e];exact h.tri.low i j hi hj
 ·by_cases e : i = c
  ·subst e;exact hg
  ·rw [hk i e];exact h.tri.piv i hi
 ·by_cases e : i = c
  ·subst e;exact hle j hj
  ·rw [hk i e];exact h.le i j hi hj
 ·by_cases e : j = c
  ·subst e;exact h0
  ·rw [hR j hjn,z1 j (by omega) hjn,h.zero j (by omega) hjn,hq j (by omega)];simp
 ·have U := fun (f : Nat → Int) hf => ho.cm (m := n + 1) (K := ex19 n L' R') (by omega) (fun i t h1 hi ht => by rw [zBC hi];exact hkeep i t h1 hi ht) f hf
  have a1 := (Cm19.exLine L' R' hc).add ((U p fun t ht => hp t (by omega)).mul (-1));have a2 := (Cm19.exRow (n := n) L' R').add ((U q fun t ht => hq t (by omega)).mul (-1));refine k.exTrans (fun i hi => ?_) ?_
  ·by_cases e : i = c
   ·subst e
    exact ((a1.mul v).add (a2.mul (-y))).congr fun t ht => by rw [hL t ht,hR t ht];grind
   ·rw [← hk i e];exact Cm19.exLine L' R' hi
  ·exact ((a1.mul (-u)).add (a2.mul x)).congr fun t ht => by rw [hL t ht,hR t ht];grind
 ·have U := fun (f : Nat → Int) hf => ho.cm (m := n + 1) (K := ex19 n L R) (by omega) (fun i t h1 hi ht => by rw [zBC hi]) f hf
  refine k.exTrans (fun i hi => ?_) ?_
  ·by_cases e : i = c
   ·subst e
    exact ((((Cm19.exLine L R hc).mul x).add ((Cm19.exRow (n := n) L R).mul y)).add (U p fun t ht => hp t (by omega))).congr fun t ht => hL t ht
   ·rw [hk i e];exact Cm19.exLine L R hi
  ·exact ((((Cm19.exLine L R hc).mul u).add ((Cm19.exRow (n := n) L R).mul v)).add (U q fun t ht => hq t (by omega))).congr fun t ht => hR t ht
structure Rs19 (n : Nat) (D : Int) (L : Nat → Nat → Int) (P : (Nat → Int) → Prop) : Prop where
 tri : Tr19 n L
 le : ∀ i j,i < n → j < n → 0 ≤ L i j ∧ L i j ≤ D
 lat : ∀ v,P v ↔ Cm19 n n L v
 mul : ∀ j,j < n → P fun t => D * dlz j t
theorem Rs19.own {n : Nat} {D : Int} {L : Nat → Nat → Int} {P : (Nat → Int) → Prop} (h : Rs19 n D L P) : Ow19 n 0 D L := Ow19.of h.tri fun j hj => (h.lat _).1 (h.mul j hj)
def zpE (P : (Nat → Int) → Prop) (R : Nat → Int) (v : Nat → Int) : Prop := ∃ x : Int,P fun j => v j - x * R j
theorem Rs19.start {n : Nat} {D : Int} {L : Nat → Nat → Int} {P : (Nat → Int) → Prop} (h : Rs19 n D L P) (R : Nat → Int) : Pt19 n 0 D L R (zpE P R) := by
 refine ⟨h.tri,h.le,fun j hj => by omega,h.own,fun v => ⟨?_,?_⟩⟩
 ·rintro ⟨x,hx⟩
  have := ((h.lat _).1 hx).more (n + 1) (by omega);have e : Cm19 (n + 1) n (ex19 n L R) fun j => v j - x * R j := by
   refine ((h.lat _).1 hx).trans fun i hi => Cm19.exLine L R hi
  exact (e.add ((Cm19.exRow L R).mul x)).congr fun t _ => by omega
 ·rintro ⟨z,hz⟩
  refine ⟨z n,(h.lat _).2 ⟨z,fun j hj => ?_⟩⟩;have e : v j = (su n fun i => z i * ex19 n L R i j) + z n * ex19 n L R n j := hz j hj;rw [zoC,zaA (g := fun i => z i * L i j) fun i hi => by rw [zBC hi]] at e
  show v j - z n * R j = _
  omega
theorem Pt19.done {n : Nat} {D : Int} {L : Nat → Nat → Int} {R : Nat → Int} {P : (Nat → Int) → Prop} (h : Pt19 n n D L R P) (hm : ∀ j,j < n → P fun t => D * dlz j t) : Rs19 n D L P := by
 refine ⟨h.tri,h.le,fun v => (h.lat v).trans ⟨fun k => ?_,fun k => ?_⟩,hm⟩
 ·refine k.trans fun i hi => ?_
  by_cases e : i = n
  ·subst e;rw [zoC];exact (Cm19.zero _ _ L).congr fun j hj => h.zero j hj hj
  ·rw [zBC (by omega)];exact Cm19.row L (by omega)
 ·exact k.trans fun i hi => Cm19.exLine L R hi
def Md19 (r n : Nat) (A : Nat → Nat → Int) (D : Int) (v : Nat → Int) : Prop := ∃ x y : Nat → Int,∀ j,j < n → v j = (su r fun i => x i * A i j) + D * y j
theorem md_next {r n : Nat} {A : Nat → Nat → Int} {D : Int} (v : Nat → Int) : zpE (Md19 r n A D) (A r) v ↔ Md19 (r + 1) n A D v := by
 constructor
 ·rintro ⟨t,x,y,h⟩
  refine ⟨fun i => if i = r then t else x i,y,fun j hj => ?_⟩;have e : v j - t * A r j = (su r fun i => x i * A i j) + D * y j := h j hj
  show v j = (su r fun i => (if i = r then t else x i) * A i j) + (if r = r then t else x r) * A r j + D * y j
  rw [if_pos rfl,zaA (g := fun i => x i * A i j) fun i hi => by rw [if_neg (by omega)]];omega
 ·rintro ⟨x,y,h⟩
  refine ⟨x r,x,y,fun j hj => ?_⟩;have e : v j = (su r fun i => x i * A i j) + x r * A r j + D * y j := h j hj
  show v j - x r * A r j = _
  omega
theorem zWG {r n : Nat} (A : Nat → Nat → Int) (D : Int) (q : Nat → Int) : Md19 r n A D fun t => D * q t := ⟨fun _ => 0,q,fun j _ => by rw [zxC fun i _ => by simp];show D * q j = 0 + D * q j;omega⟩
theorem Rs19.iff {n : Nat} {D : Int} {L : Nat → Nat → Int} {P Q : (Nat → Int) → Prop} (h : Rs19 n D L P) (e : ∀ v,P v ↔ Q v) : Rs19 n D L Q := ⟨h.tri,h.le,fun v => (e v).symm.trans (h.lat v),fun j hj => (e _).1 (h.mul j hj)⟩
theorem Rs19.first {n : Nat} {D : Int} (hD : 0 < D) (A : Nat → Nat → Int) : Rs19 n D (fun i j => if i = j then D else 0) (Md19 0 n A D) := by
 refine ⟨⟨fun i j hi hj => if_neg (by omega),fun i hi => by show 0 < if i = i then D else 0;rw [if_pos rfl];exact hD⟩,fun i j hi hj => ?_,fun v => ⟨?_,?_⟩,fun j hj => zWG A D _⟩
 ·show 0 ≤ (if i = j then D else 0) ∧ (if i = j then D else 0) ≤ D
  split <;> omega
 ·rintro ⟨x,y,h⟩
  refine ⟨y,fun j hj => ?_⟩;rw [zIB hj fun k _ hk => by show y k * (if k = j then D else 0) = 0;rw [if_neg hk,Int.mul_zero]]
  show v j = y j * (if j = j then D else 0)
  rw [if_pos rfl,h j hj]
  show 0 + D * y j = _
  rw [Int.zero_add,Int.mul_comm]
 ·rintro ⟨z,hz⟩
  refine ⟨fun _ => 0,z,fun j hj => ?_⟩;rw [hz j hj,zIB hj fun k _ hk => by show z k * (if k = j then D else 0) = 0;rw [if_neg hk,Int.mul_zero]]
  show z j * (if j = j then D else 0) = 0 + D * z j
  rw [if_pos rfl,Int.zero_add,Int.mul_comm]
structure Lw19 (n i c : Nat) (D M : Int) (L : Nat → Nat → Int) (P : (Nat → Int) → Prop) : Prop where
 tri : Tr19 n L
 pd : ∀ k,k < n → L k k ≤ D
 le : ∀ k j,k < i → j < n → 0 ≤ L k j ∧ L k j ≤ D
 mid : ∀ j,j < n → i < n → (L i j).natAbs ≤ D + (c : Int) * M
 red : ∀ k j,i < k → k < j → j < n → 0 ≤ L k j ∧ L k j < L j j
 now : ∀ j,i < j → j < c → j < n → 0 ≤ L i j ∧ L i j < L j j
 lat : ∀ v,P v ↔ Cm19 n n L v
 mul : ∀ j,j < n → P fun t => D * dlz j t
theorem Lw19.own {n i c : Nat} {D M : Int} {L : Nat → Nat → Int} {P : (Nat → Int) → Prop} (h : Lw19 n i c D M L P) : Ow19 n 0 D L := Ow19.of h.tri fun j hj => (h.lat _).1 (h.mul j hj)
theorem cm_line {n i : Nat} {L L' : Nat → Nat → Int} {d : Nat → Int} (hi : i < n) (hk : ∀ k,k ≠ i → L' k = L k) (hL : ∀ t,t < n → L' i t = L i t + d t) (z : Nat → Int) (hz0 : ∀ k,k ≤ i → z k = 0) (hz : ∀ t,t < n → d t = su n fun k => z k * L k t) (v : Nat → Int) : Cm19 n n L v ↔ Cm19 n n L' v := by
 have e : ∀ t,t < n → (su n fun k => z k * L k t) = su n fun k => z k * L' k t := fun t ht => zaA fun k hk' => by
  by_cases q : k = i
  ·rw [hz0 k (by omega),Int.zero_mul,Int.zero_mul]
  ·rw [hk k q]
 have d1 : Cm19 n n L d := ⟨z,hz⟩
 have d2 : Cm19 n n L' d := ⟨z,fun t ht => (hz t ht).trans (e t ht)⟩
 constructor
 ·refine fun h => h.trans fun k hk' => ?_
  by_cases q : k = i
  ·subst q
   exact ((Cm19.row L' hi).add (d2.mul (-1))).congr fun t ht => by rw [hL t ht];omega
  ·rw [← hk k q];exact Cm19.row L' hk'
 ·refine fun h => h.trans fun k hk' => ?_
  by_cases q : k = i
  ·subst q
   exact ((Cm19.row L hi).add d1).congr fun t ht => hL t ht
  ·rw [hk k q];exact Cm19.row L hk'
theorem Lw19.step {n i c : Nat} {D M q s : Int} {L L' : Nat → Nat → Int} {P : (Nat → Int) → Prop} (h : Lw19 n i c D M L P) (hic : i < c) (hc : c < n) (hk : ∀ k,k ≠ i → L' k = L k)
  (hL : ∀ t,t < n → L' i t = if t < c then L i t else (if t = c then L i t + D * q else L i t) - s * L c t) (h0 : 0 ≤ L i c + D * q - s * L c c) (h1 : L i c + D * q - s * L c c < L c c) (hs : 0 ≤ s ∧ s ≤ D) (hM : D * D ≤ M) : Lw19 n i (c + 1) D M L' P := by
 obtain ⟨z,z1,z2⟩ := h.own c (Nat.zero_le _) hc;have hi : i < n := by omega
 have hlow : ∀ t,t < c → L c t = 0 := fun t ht => h.tri.low c t hc ht
 have hL2 : ∀ t,t < n → L' i t = L i t + (q * (D * dlz c t) + (-s) * L c t) := fun t ht => by
  rw [hL t ht]
  by_cases e : t < c
  ·rw [if_pos e,hlow t e];simp [dlz,show c ≠ t by omega]
  ·rw [if_neg e]
   by_cases e2 : t = c
   ·subst e2;simp [dlz];grind
   ·rw [if_neg e2];simp [dlz,show c ≠ t by omega];grind
 have hD0 : 0 ≤ D := by have := h.tri.piv c hc;have := h.pd c hc;omega
 refine ⟨⟨fun a b ha hb => ?_,fun a ha => ?_⟩,fun k hk' => ?_,fun k j hk' hj => ?_,fun j hj _ => ?_,fun k j h2 h3 h4 => ?_,fun j h2 h3 h4 => ?_,fun v => (h.lat v).trans (cm_line hi hk hL2 (fun k => q * z k + (-s) * dlz k c) (fun k hk' => ?_) (fun t ht => ?_) v),h.mul⟩
 ·by_cases e : a = i
  ·subst e
   rw [hL b (by omega),if_pos (by omega)];exact h.tri.low a b ha hb
  ·rw [hk a e];exact h.tri.low a b ha hb
 ·by_cases e : a = i
  ·subst e
   rw [hL a ha,if_pos hic];exact h.tri.piv a ha
  ·rw [hk a e];exact h.tri.piv a ha
 ·by_cases e : k = i
  ·subst e
   rw [hL k hk',if_pos hic];exact h.pd k hk'
  ·rw [hk k e];exact h.pd k hk'
 ·rw [hk k (by omega)];exact h.le k j hk' hj
 ·have hm := h.mid j hj hi
  have hb := h.pd c hc;have hM0 : 0 ≤ M := Int.le_trans (Int.mul_nonneg hD0 hD0) hM;have ec : ((c + 1 : Nat) : Int) * M = c * M + M := by rw [Int.natCast_add];grind
  rw [ec];rw [hL j hj]
  by_cases e : j < c
  ·rw [if_pos e];omega
  ·rw [if_neg e]
   by_cases e2 : j = c
   ·subst e2
    rw [if_pos rfl];have : 0 ≤ (j : Int) * M := Int.mul_nonneg (by omega) hM0;omega
   ·rw [if_neg e2]
    have r := h.red c j hic (by omega) hj;have hcj : 0 ≤ L c j ∧ L c j ≤ D := ⟨r.1,by have := h.pd j hj;omega⟩
    have m1 : s * L c j ≤ D * D := Int.mul_le_mul hs.2 hcj.2 hcj.1 hD0;have m2 : 0 ≤ s * L c j := Int.mul_nonneg hs.1 hcj.1;omega
 ·rw [hk k (by omega),hk j (by omega)];exact h.red k j h2 h3 h4
 ·rw [hk j (by omega)]
  by_cases e : j < c
  ·rw [hL j h4,if_pos e];exact h.now j h2 e h4
  ·obtain rfl : j = c := by omega
   rw [hL j h4,if_neg (by omega),if_pos rfl];exact ⟨h0,h1⟩
 ·show q * z k + (-s) * dlz k c = 0
  rw [z1 k (by omega)];simp [dlz,show k ≠ c by omega]
 ·show q * (D * dlz c t) + (-s) * L c t = su n fun k => (q * z k + (-s) * dlz k c) * L k t
  rw [zaA (f := fun k => (q * z k + (-s) * dlz k c) * L k t) (g := fun k => q * (z k * L k t) + (-s) * (dlz k c * L k t)) fun k _ => by rw [Int.add_mul,Int.mul_assoc,Int.mul_assoc],zlF,zJD,zJD,zIB (f := fun k => dlz k c * L k t) hc fun k _ hk => by simp [dlz,hk],← z2 t ht];simp [dlz]
theorem Lw19.first {n : Nat} {D M : Int} {L : Nat → Nat → Int} {P : (Nat → Int) → Prop} (h : Rs19 n D L P) (c : Nat) : Lw19 n n c D M L P :=
 ⟨h.tri,fun k hk => (h.le k k hk hk).2,fun k j hk hj => h.le k j hk hj,fun j _ hn => by omega,fun k j h1 h2 h3 => by omega,fun j h1 h2 h3 => by omega,h.lat,h.mul⟩
theorem Lw19.next {n i c : Nat} {D M : Int} {L : Nat → Nat → Int} {P : (Nat → Int) → Prop} (h : Lw19 n (i + 1) c D M L P) (hc : i + 1 < n → n ≤ c) (hM : 0 ≤ M) : Lw19 n i (i + 1) D M L P := by
 refine ⟨h.tri,h.pd,fun k j hk hj => h.le k j (by omega) hj,fun j hj hi => ?_,fun k j h1 h2 h3 => ?_,fun j h1 h2 h3 => by omega,h.lat,h.mul⟩
 ·have := h.le i j (by omega) hj
  have : 0 ≤ ((i + 1 : Nat) : Int) * M := Int.mul_nonneg (by omega) hM;omega
 ·by_cases e : k = i + 1
  ·subst e;exact h.now j h2 (by have := hc (by omega);omega) h3
  ·exact h.red k j (by omega) h2 h3
theorem Lw19.end {n c : Nat} {D M : Int} {L : Nat → Nat → Int} {P : (Nat → Int) → Prop} (h : Lw19 n 0 c D M L P) (hc : 0 < n → n ≤ c) : Rd19 n L :=
 ⟨h.tri,fun i j h1 h2 => by
  by_cases e : i = 0
  ·subst e;exact h.now j h1 (by have := hc (by omega);omega) h2
  ·exact h.red i j (by omega) h1 h2⟩
structure Hb19 (n : Nat) (H : Nat → Nat → Int) (P : (Nat → Int) → Prop) : Prop where
 rd : Rd19 n H
 lat : ∀ v,P v ↔ Cm19 n n H v
theorem Hb19.one {n : Nat} {H G : Nat → Nat → Int} {P Q : (Nat → Int) → Prop} (h : Hb19 n H P) (g : Hb19 n G Q) (e : ∀ v,P v ↔ Q v) : ∀ i j,i < n → j < n → H i j = G i j :=
 h.rd.one g.rd (fun i hi => (g.lat _).1 ((e _).1 ((h.lat _).2 (Cm19.row H hi)))) (fun i hi => (h.lat _).1 ((e _).2 ((g.lat _).2 (Cm19.row G hi))))
end Go.Proofs.YtfeofdpnhhiclaaGreat
