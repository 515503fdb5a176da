/-
  QSl17ToCf8: Sl17, Rk17, Ez17, Er17, Sh17, Rq8, Cf8, joined.
-/
import Derived.Test.YtcceoildbnoliaaGreatQEr13ToDim17
import Derived.Test.YtcceoildbnoliaaGreatQCx17
import Derived.Test.YtcceoildbnoliaaGreatQWordsToCarry
import Derived.Test.YtcceoildbnoliaaGreatQTailToMWord

/- Sl17 -/
namespace Go.Proofs.YtcceoildbnoliaaGreat.Q17
set_option linter.unusedVariables false

/-- Rows scaled by numbers that are not 0. -/
theorem eqv_scale {m n : Nat} {A B : Nat → Nat → Rat} {d : Nat → Rat} (hd : ∀ i, i < m → d i ≠ 0) (h : ∀ i j, i < m → j < n → B i j = d i * A i j) : Eqv n m B A := by
  have e1 : ∀ (c : Nat → Rat) (M : Nat → Nat → Rat) (i j : Nat), i < m → vm m (fun k => c i * dlt i k) M j = c i * M i j := fun c M i j hi => by
    have : vm m (fun k => c i * dlt i k) M j = c i * vm m (dlt i) M j := by
      unfold vm
      rw [← sm_mul]
      exact sm_congr fun t _ => by rw [Rat.mul_assoc]
    rw [this, vm_dlt hi]
  refine ⟨⟨fun i k => d i * dlt i k, fun i j hi hj => by rw [e1 d A i j hi, h i j hi hj]⟩, ⟨fun i k => (d i)⁻¹ * dlt i k, fun i j hi hj => ?_⟩⟩
  rw [e1 (fun i => (d i)⁻¹) B i j hi, h i j hi hj, ← Rat.mul_assoc, Rat.inv_mul_cancel _ (hd i hi), Rat.one_mul]
/-- Two rows exchanged. -/
theorem eqv_swap {m n : Nat} {A B : Nat → Nat → Rat} {a b : Nat} (ha : a < m) (hb : b < m) (h : ∀ i j, i < m → j < n → B i j = A (if i = a then b else if i = b then a else i) j) : Eqv n m B A := by
  have lt : ∀ i, i < m → (if i = a then b else if i = b then a else i) < m := fun i hi => by split <;> (try split) <;> omega
  refine ⟨⟨fun i => dlt (if i = a then b else if i = b then a else i), fun i j hi hj => by rw [vm_dlt (lt i hi), h i j hi hj]⟩, ⟨fun i => dlt (if i = a then b else if i = b then a else i), fun i j hi hj => ?_⟩⟩
  rw [vm_dlt (lt i hi), h _ j (lt i hi) hj]
  congr 1
  split <;> (try split) <;> (try split) <;> (try split) <;> (try split) <;> omega
end Go.Proofs.YtcceoildbnoliaaGreat.Q17

/- Rk17 -/
namespace Go.Proofs.YtcceoildbnoliaaGreat
set_option linter.unusedVariables false
open Q17 (sm vm Comb Rref)

theorem cast_su : ∀ (t : Nat) (f : Nat → Int), ((su t f : Int) : Rat) = sm t fun a => (f a : Rat)
  | 0, f => by simp [su, sm]
  | t + 1, f => by
    simp only [su, sm]
    rw [Rat.intCast_add, cast_su t f]
theorem cast_ne {N : Int} (h : N ≠ 0) : (N : Rat) ≠ 0 := fun e => h (Rat.intCast_inj.1 (by simpa using e))
/-- A whole matrix as one of fractions. -/
def qm (A : Nat → Nat → Int) (i j : Nat) : Rat := (A i j : Rat)
end Go.Proofs.YtcceoildbnoliaaGreat

/- Ez17 -/
namespace Go.Proofs.YtcceoildbnoliaaGreat
set_option linter.unusedVariables false

/-- The entry that a step wants, times the determinant before. -/
theorem dcl_cross {A : Nat → Nat → Int} {m n : Nat} {f : Nat → Nat} {p i : Nat} (q j : Nat) (hp : p < m) (hi : i < m) (hip : i ≠ p) :
    dcl A m n (stf f p q) * dcl A m n (stf f i j) - dcl A m n (stf f i q) * dcl A m n (stf f p j) = dcl A m n f * dcl A m n (stf (stf f p q) i j) := by
  obtain ⟨B, hB⟩ : ∃ B, (fun r => vcl A n (f r)) = B := ⟨_, rfl⟩
  have e0 : dcl A m n (stf (stf f p q) i j) = det m (stR (stR B p (vcl A n q)) i (vcl A n j)) := by
    rw [dcl_st, ← hB]
    congr 2
    funext r k
    unfold stf stR
    split <;> rfl
  have e9 : dcl A m n f = det m B := by rw [← hB]; rfl
  have hlin : ∀ x : Nat → Int, det m (stR (stR B p (vcl A n q)) i fun k => su m fun t => x t * B t k) = su m fun t => x t * det m (stR (stR B p (vcl A n q)) i (B t)) := fun x => (det_alt m).sum hi x B m
  have h1 : det m B * det m (stR (stR B p (vcl A n q)) i (vcl A n j)) = su m fun t => det m (stR B t (vcl A n j)) * det m (stR (stR B p (vcl A n q)) i (B t)) := by
    rw [← hlin, ← (det_alt m).mul hi]
    refine det_congr fun r k hr hk => ?_
    unfold stR
    by_cases e : r = i
    · rw [if_pos e, if_pos e]
      exact (cramer14 B (vcl A n j) hk).symm
    · rw [if_neg e, if_neg e]
  rw [e0, e9, h1]
  have h2 : ∀ t, t < m → t ≠ i → t ≠ p → det m (stR B t (vcl A n j)) * det m (stR (stR B p (vcl A n q)) i (B t)) = 0 := fun t ht h1 h2 => by
    rw [(det_alt m).same (A := stR (stR B p (vcl A n q)) i (B t)) (i := t) (k := i) ht hi h1 fun k _ => by
      unfold stR
      rw [if_neg h1, if_neg h2, if_pos rfl], Int.mul_zero]
  rw [su_pick14 hi hp hip h2, det_swp B _ hp hi hip]
  have e1 : det m (stR (stR B p (vcl A n q)) i (B i)) = dcl A m n (stf f p q) := by
    rw [dcl_st, hB]
    congr 1
    funext r k
    unfold stR
    by_cases e : r = i
    · subst e; rw [if_pos rfl, if_neg hip]
    · rw [if_neg e]
  have e2 : ∀ r c, dcl A m n (stf f r c) = det m (stR B r (vcl A n c)) := fun r c => by rw [dcl_st, hB]
  rw [e1, ← e2, ← e2, ← e2]
  grind
/-- The lines L after some steps: the basis f, the number in place of the first ones. -/
structure Elz (A : Nat → Nat → Int) (m n : Nat) (f : Nat → Nat) (L : Nat → Nat → Int) (d s : Int) : Prop where
  nz : d ≠ 0
  sg : s * s = 1
  de : d = s * dcl A m n f
  be : ∀ i j, i < m → j < n → L i j = s * dcl A m n (stf f i j)
theorem Elz.start (A : Nat → Nat → Int) (m n : Nat) : Elz A m n (fun i => n + i) A 1 1 := by
  have t := Tbl.start A m n
  refine ⟨by decide, rfl, ?_, fun i j hi hj => ?_⟩
  · rw [t.de]; rfl
  · rw [t.be i j hi hj, Int.one_mul]
theorem Elz.congr {A : Nat → Nat → Int} {m n : Nat} {f : Nat → Nat} {L L' : Nat → Nat → Int} {d s : Int} (h : Elz A m n f L d s) (e : ∀ i j, i < m → j < n → L' i j = L i j) : Elz A m n f L' d s := ⟨h.nz, h.sg, h.de, fun i j hi hj => by rw [e i j hi hj]; exact h.be i j hi hj⟩
def swi (a b i : Nat) : Nat := if i = a then b else if i = b then a else i
theorem swi_lt {a b i m : Nat} (ha : a < m) (hb : b < m) (hi : i < m) : swi a b i < m := by
  unfold swi
  split
  · exact hb
  · split
    · exact ha
    · exact hi
theorem swi_swi (a b i : Nat) : swi a b (swi a b i) = i := by unfold swi; (repeat' split) <;> omega
theorem dcl_swap {A : Nat → Nat → Int} {m n a b : Nat} (g : Nat → Nat) (ha : a < m) (hb : b < m) (hab : a ≠ b) : dcl A m n (fun i => g (swi a b i)) = - dcl A m n g := by
  unfold dcl
  rw [← (det_alt m).swap (A := fun p => vcl A n (g p)) ha hb hab]
  congr 1
  funext r k
  show vcl A n (g (swi a b r)) k = _
  unfold stR swi
  by_cases e : r = b
  · rw [if_pos e]
    by_cases e' : r = a
    · exact absurd (e'.symm.trans e) hab
    · rw [if_neg e', if_pos e]
  · by_cases e' : r = a
    · subst e'; simp [e]
    · simp [e, e']
theorem Elz.swap {A : Nat → Nat → Int} {m n : Nat} {f : Nat → Nat} {L : Nat → Nat → Int} {d s : Int} (h : Elz A m n f L d s) {a b : Nat} (ha : a < m) (hb : b < m) : ∃ f' s', Elz A m n f' (fun i j => L (swi a b i) j) d s' := by
  by_cases hab : a = b
  · subst hab
    refine ⟨f, s, h.congr fun i j hi hj => ?_⟩
    show L (swi a a i) j = L i j
    congr 1
    unfold swi
    by_cases q : i = a
    · rw [if_pos q, q]
    · rw [if_neg q, if_neg q]
  · refine ⟨fun i => f (swi a b i), -s, h.nz, by have := h.sg; grind, ?_, fun i j hi hj => ?_⟩
    · rw [dcl_swap f ha hb hab]; have := h.de; grind
    · have e : stf (fun i => f (swi a b i)) i j = fun k => (stf f (swi a b i) j) (swi a b k) := by
        funext k
        unfold stf
        by_cases q : k = i
        · subst q; rw [if_pos rfl, if_pos rfl]
        · rw [if_neg q, if_neg]
          intro c
          have := congrArg (swi a b) c
          rw [swi_swi, swi_swi] at this
          exact q this
      show L (swi a b i) j = _
      rw [h.be _ j (swi_lt ha hb hi) hj, e, dcl_swap _ ha hb hab]
      grind
/-- The step's division comes out even, at the next entry. -/
theorem Elz.cross {A : Nat → Nat → Int} {m n : Nat} {f : Nat → Nat} {L : Nat → Nat → Int} {d s : Int} (h : Elz A m n f L d s) {p c i j : Nat} (hp : p < m) (hc : c < n) (hi : i < m) (hj : j < n) (hip : i ≠ p) :
    L p c * L i j - L i c * L p j = d * (s * dcl A m n (stf (stf f p c) i j)) := by
  have e := dcl_cross (A := A) (n := n) (f := f) c j hp hi hip
  have h2 := h.sg
  rw [h.be p c hp hc, h.be i j hi hj, h.be i c hi hc, h.be p j hp hj, h.de]
  grind
theorem Elz.dvd {A : Nat → Nat → Int} {m n : Nat} {f : Nat → Nat} {L : Nat → Nat → Int} {d s : Int} (h : Elz A m n f L d s) {p c i j : Nat} (hp : p < m) (hc : c < n) (hi : i < m) (hj : j < n) (hip : i ≠ p) : d ∣ L p c * L i j - L i c * L p j := ⟨_, h.cross hp hc hi hj hip⟩
theorem Elz.step {A : Nat → Nat → Int} {m n : Nat} {f : Nat → Nat} {L L' : Nat → Nat → Int} {d s : Int} (h : Elz A m n f L d s) {p c : Nat} (hp : p < m) (hc : c < n) (hnz : L p c ≠ 0)
    (h1 : ∀ i j, i < m → j < n → i ≠ p → d * L' i j = L p c * L i j - L i c * L p j) (h2 : ∀ j, j < n → L' p j = L p j) : Elz A m n (stf f p c) L' (L p c) s := by
  refine ⟨hnz, h.sg, h.be p c hp hc, fun i j hi hj => ?_⟩
  by_cases e : i = p
  · subst e
    rw [h2 j hj, h.be i j hi hj]
    congr 2
    funext k
    unfold stf
    split <;> rfl
  · have := h1 i j hi hj e
    rw [h.cross hp hc hi hj e] at this
    exact Int.eq_of_mul_eq_mul_left h.nz this
end Go.Proofs.YtcceoildbnoliaaGreat

/- Er17 -/
namespace Go.Proofs.YtcceoildbnoliaaGreat
set_option linter.unusedVariables false
open Q17 (Comb Rref Eqv)

def rq (L : Nat → Nat → Int) (d : Int) (i j : Nat) : Rat := (L i j : Rat) * (d : Rat)⁻¹
/-- After c columns: the lines L, the number d, the pivots. -/
structure Els (A : Nat → Nat → Int) (m n c : Nat) (L : Nat → Nat → Int) (d : Int) (pv : List Nat) : Prop where
  ez : ∃ f s, Elz A m n f L d s
  rr : Rref m c (rq L d) pv
  eq : Eqv n m (rq L d) (qm A)
theorem Els.nz {A : Nat → Nat → Int} {m n c : Nat} {L : Nat → Nat → Int} {d : Int} {pv : List Nat} (h : Els A m n c L d pv) : d ≠ 0 := by
  obtain ⟨f, s, e⟩ := h.ez
  exact e.nz
theorem rq_one (A : Nat → Nat → Int) : rq A 1 = qm A := by
  funext i j
  unfold rq qm
  have : ((1 : Int) : Rat)⁻¹ = 1 := by
    have h := Rat.mul_inv_cancel ((1 : Int) : Rat) (by decide)
    rw [show ((1 : Int) : Rat) = 1 from rfl, Rat.one_mul] at h
    exact h
  rw [this, Rat.mul_one]
theorem Els.start (A : Nat → Nat → Int) (m n : Nat) : Els A m n 0 A 1 [] := ⟨⟨_, _, Elz.start A m n⟩, Rref.start _ _, by rw [rq_one]; exact Eqv.refl _ _ _⟩
theorem Els.len {A : Nat → Nat → Int} {m n c : Nat} {L : Nat → Nat → Int} {d : Int} {pv : List Nat} (h : Els A m n c L d pv) : pv.length ≤ m := h.rr.len
theorem Els.skip {A : Nat → Nat → Int} {m n c : Nat} {L : Nat → Nat → Int} {d : Int} {pv : List Nat} (h : Els A m n c L d pv) (hz : ∀ i, pv.length ≤ i → i < m → L i c = 0) : Els A m n (c + 1) L d pv :=
  ⟨h.ez, h.rr.skip fun i h1 h2 => by unfold rq; rw [hz i h1 h2]; exact Rat.zero_mul _, h.eq⟩
theorem Els.swap {A : Nat → Nat → Int} {m n c : Nat} {L : Nat → Nat → Int} {d : Int} {pv : List Nat} (h : Els A m n c L d pv) {a b : Nat} (ha : pv.length ≤ a) (hb : pv.length ≤ b) (ham : a < m) (hbm : b < m) : Els A m n c (fun i j => L (swi a b i) j) d pv := by
  obtain ⟨f, s, e⟩ := h.ez
  exact ⟨e.swap ham hbm, h.rr.swap ha hb ham hbm fun i j hi => rfl, (Q17.eqv_swap ham hbm fun i j hi hj => rfl).trans h.eq⟩
theorem Els.dvd {A : Nat → Nat → Int} {m n c : Nat} {L : Nat → Nat → Int} {d : Int} {pv : List Nat} (h : Els A m n c L d pv) {p q i j : Nat} (hp : p < m) (hc : q < n) (hi : i < m) (hj : j < n) (hip : i ≠ p) : d ∣ L p q * L i j - L i q * L p j := by
  obtain ⟨f, s, e⟩ := h.ez
  exact e.dvd hp hc hi hj hip
theorem Els.step {A : Nat → Nat → Int} {m n c : Nat} {L L' : Nat → Nat → Int} {d : Int} {pv : List Nat} (h : Els A m n c L d pv) (hp : pv.length < m) (hc : c < n) (hnz : L pv.length c ≠ 0)
    (h1 : ∀ i j, i < m → j < n → i ≠ pv.length → d * L' i j = L pv.length c * L i j - L i c * L pv.length j) (h2 : ∀ j, j < n → L' pv.length j = L pv.length j) : Els A m n (c + 1) L' (L pv.length c) (pv ++ [c]) := by
  obtain ⟨f, s, e⟩ := h.ez
  obtain ⟨p, hpp⟩ : ∃ p, pv.length = p := ⟨_, rfl⟩
  rw [hpp] at hp hnz h1 h2 ⊢
  have hd : (d : Rat) ≠ 0 := cast_ne h.nz
  have hx : (L p c : Rat) ≠ 0 := cast_ne hnz
  have i1 : (d : Rat) * (d : Rat)⁻¹ = 1 := Rat.mul_inv_cancel _ hd
  have i2 : (L p c : Rat) * (L p c : Rat)⁻¹ = 1 := Rat.mul_inv_cancel _ hx
  obtain ⟨y, hy⟩ : ∃ y : Rat, y = (d : Rat) * (L p c : Rat)⁻¹ := ⟨_, rfl⟩
  have hy1 : rq L d p c * y = 1 := by unfold rq; rw [hy]; grind
  have key : ∀ i j, i < m → j < n → rq L' (L p c) i j = if i = p then rq L d i j * y else rq L d i j - rq L d i c * (rq L d p j * y) := fun i j hi hj => by
    by_cases q : i = p
    · rw [if_pos q, q]
      unfold rq
      rw [h2 j hj, hy]
      grind
    · rw [if_neg q]
      have := congrArg (fun z : Int => (z : Rat)) (h1 i j hi hj q)
      simp only [Rat.intCast_mul, Rat.intCast_sub] at this
      unfold rq
      have h5 : (L' i j : Rat) = (d : Rat)⁻¹ * ((d : Rat) * (L' i j : Rat)) := by grind
      rw [h5, this, hy]
      grind
  refine ⟨⟨_, _, e.step hp hc hnz h1 h2⟩, ?_, Eqv.trans ?_ h.eq⟩
  · have hc1 := h.rr.clear (N := fun i j => if i = p then rq L d i j * y else rq L d i j - rq L d i c * (rq L d p j * y)) (by omega) (y := y) (by rw [hpp]; exact hy1) (fun i j hi => by rw [hpp])
    exact hc1.congr (n := n) (by omega) key
  · refine ⟨Comb.two (f := fun i => i) (g := fun _ => p) (a := fun i => if i = p then y else 1) (b := fun i => if i = p then 0 else -(rq L d i c * y)) (fun i hi => hi) (fun _ _ => hp) (fun i j hi hj => ?_), Comb.two (f := fun i => i) (g := fun _ => p) (a := fun i => if i = p then rq L d p c else 1) (b := fun i => if i = p then 0 else rq L d i c) (fun i hi => hi) (fun _ _ => hp) (fun i j hi hj => ?_)⟩
    · rw [key i j hi hj]
      by_cases q : i = p
      · simp only [q, if_true]; grind
      · simp only [q, if_false]; grind
    · rw [key i j hi hj, key p j hp hj]
      by_cases q : i = p
      · subst q
        simp only [if_true]
        grind
      · simp only [q, if_false, if_true]; grind
/-- At the end: the reduced echelon form, whose rows span what A's rows span. -/
theorem Els.form {A : Nat → Nat → Int} {m n : Nat} {L : Nat → Nat → Int} {d : Int} {pv : List Nat} (h : Els A m n n L d pv) : Rref m n (rq L d) pv ∧ Eqv n m (rq L d) (qm A) := ⟨h.rr, h.eq⟩
end Go.Proofs.YtcceoildbnoliaaGreat

/- Sh17 -/
namespace Go.Proofs.YtcceoildbnoliaaGreat
open Go.RowKit
set_option linter.unusedVariables false

def gv17 (m n : Nat) (gs : Nat → Nat) : List Value := (List.range m).map fun i => rowv n (gs i)
theorem gv17_at {m n i : Nat} {gs : Nat → Nat} {r : List Value} (hi : i < m) : (gv17 m n gs ++ r)[i]? = some (rowv n (gs i)) := by
  rw [List.getElem?_append_left (by simpa [gv17] using hi)]
  simp [gv17, hi]
theorem gv17_set {m n i g : Nat} {gs : Nat → Nat} {r : List Value} (hi : i < m) : (gv17 m n gs ++ r).set i (rowv n g) = gv17 m n (fun t => if t = i then g else gs t) ++ r := by
  rw [List.set_append_left _ _ (by simpa [gv17] using hi)]
  congr 1
  apply List.ext_getElem?
  intro t
  by_cases q : t < m
  · by_cases e : t = i
    · subst e
      rw [List.getElem?_set_self (by simpa [gv17] using hi)]
      simp [gv17, hi]
    · rw [List.getElem?_set_ne (by omega)]
      simp [gv17, q, e]
  · rw [List.getElem?_eq_none (by simp [gv17]; omega), List.getElem?_eq_none (by simp [gv17]; omega)]
theorem gv17_congr {m n : Nat} {gs hs : Nat → Nat} (h : ∀ i, i < m → gs i = hs i) : gv17 m n gs = gv17 m n hs := List.map_congr_left fun t ht => by rw [h t (by simpa using ht)]
/-- A row of integers of their own. -/
def Rw17 (w : World) (g n : Nat) (F : Nat → Int) (k : Nat) : Prop := ∃ ps, Arr w g ps ∧ Zms w ps ((List.range n).map F) k
theorem Rw17.now {w w' : World} {g n k : Nat} {F : Nat → Int} (h : Rw17 w g n F k) (hb : Below w.heap.size w w') : Rw17 w' g n F k := by
  obtain ⟨ps, h1, h2⟩ := h
  exact ⟨ps, h1.step hb, h2.now hb⟩
theorem Rw17.ty {T : TypeId} {w w' : World} {g n k : Nat} {F : Nat → Int} (h : Rw17 w g n F k) (ht : Ty T w w') (h1 : 45 ≠ T) (h2 : 125 ≠ T) : Rw17 w' g n F k := by
  obtain ⟨ps, q1, q2⟩ := h
  exact ⟨ps, ⟨q1.1.ty13 ht h1, q1.2⟩, q2.ty ht h2⟩
theorem Rw17.touch {w w' : World} {g g' n k : Nat} {F : Nat → Int} {ps : List (Value × Value)} (h : Rw17 w g n F k) (ht : Touch (· = g') w w') (hA : Arr w g' ps) (hne : g ≠ g') : Rw17 w' g n F k := by
  obtain ⟨qs, q1, q2⟩ := h
  exact ⟨qs, q1.touch ht hne, q2.ty (ht.ty13 hA) (by decide)⟩
theorem Rw17.congr {w : World} {g n k : Nat} {F G : Nat → Int} (h : Rw17 w g n F k) (e : ∀ j, j < n → F j = G j) : Rw17 w g n G k := by
  obtain ⟨ps, h1, h2⟩ := h
  exact ⟨ps, h1, by rw [List.map_congr_left (g := F) fun t ht => (e t (by simpa using ht)).symm]; exact h2⟩
/-- The lines: the list lv of m rows, each an array of its own. -/
def Sh17 (B : Nat) (w : World) (lv : Value) (m n : Nat) (gs : Nat → Nat) (L : Nat → Nat → Int) (k : Nat) : Prop :=
  ((m = 0 ∧ lv = .slice none 0 0) ∨ (0 < m ∧ ∃ Lb cap r, lv = .slice (some ⟨Lb, 0, none⟩) m cap ∧ m ≤ cap ∧ B ≤ Lb ∧ Cel w Lb 33 (gv17 m n gs ++ r))) ∧ (∀ i j, i < m → j < m → gs i = gs j → i = j) ∧ ∀ i, i < m → B ≤ gs i ∧ Rw17 w (gs i) n (L i) k
theorem Sh17.now {B m n k : Nat} {w w' : World} {lv : Value} {gs : Nat → Nat} {L : Nat → Nat → Int} (h : Sh17 B w lv m n gs L k) (hb : Below w.heap.size w w') : Sh17 B w' lv m n gs L k := by
  obtain ⟨h1, h4, h5⟩ := h
  refine ⟨?_, h4, fun i hi => ⟨(h5 i hi).1, (h5 i hi).2.now hb⟩⟩
  rcases h1 with h1 | ⟨h0, Lb, cap, r, e, e0, e1, e2⟩
  · exact .inl h1
  · exact .inr ⟨h0, Lb, cap, r, e, e0, e1, e2.step hb⟩
theorem Sh17.ty {T : TypeId} {B m n k : Nat} {w w' : World} {lv : Value} {gs : Nat → Nat} {L : Nat → Nat → Int} (h : Sh17 B w lv m n gs L k) (ht : Ty T w w') (t1 : 45 ≠ T) (t2 : 125 ≠ T) (t3 : 33 ≠ T) : Sh17 B w' lv m n gs L k := by
  obtain ⟨h1, h4, h5⟩ := h
  refine ⟨?_, h4, fun i hi => ⟨(h5 i hi).1, (h5 i hi).2.ty ht t1 t2⟩⟩
  rcases h1 with h1 | ⟨h0, Lb, cap, r, e, e0, e1, e2⟩
  · exact .inl h1
  · exact .inr ⟨h0, Lb, cap, r, e, e0, e1, e2.ty13 ht t3⟩
theorem Sh17.congr {B m n k : Nat} {w : World} {lv : Value} {gs : Nat → Nat} {L L' : Nat → Nat → Int} (h : Sh17 B w lv m n gs L k) (e : ∀ i j, i < m → j < n → L i j = L' i j) : Sh17 B w lv m n gs L' k :=
  ⟨h.1, h.2.1, fun i hi => ⟨(h.2.2 i hi).1, (h.2.2 i hi).2.congr fun j hj => e i j hi hj⟩⟩
/-- One row has turned. -/
theorem Sh17.row {B m n k i : Nat} {w w' : World} {lv : Value} {gs : Nat → Nat} {L : Nat → Nat → Int} {F : Nat → Int} (h : Sh17 B w lv m n gs L k) (hi : i < m) (ht : Touch (· = gs i) w w') (hr : Rw17 w' (gs i) n F k) : Sh17 B w' lv m n gs (fun t j => if t = i then F j else L t j) k := by
  obtain ⟨h1, h4, h5⟩ := h
  obtain ⟨ps, p1, p2⟩ := (h5 i hi).2
  refine ⟨?_, h4, fun t ht' => ⟨(h5 t ht').1, ?_⟩⟩
  · rcases h1 with h1 | ⟨h0, Lb, cap, r, e, e0, e1, e2⟩
    · exact .inl h1
    · exact .inr ⟨h0, Lb, cap, r, e, e0, e1, e2.ty13 (ht.ty13 p1) (by decide)⟩
  · by_cases q : t = i
    · subst q
      exact hr.congr fun j _ => (if_pos rfl).symm
    · exact ((h5 t ht').2.touch ht p1 fun e => q (h4 t i ht' hi e)).congr fun j _ => (if_neg q).symm
theorem Sh17.line {B m n k Lb cap : Nat} {w : World} {gs : Nat → Nat} {L : Nat → Nat → Int} (h : Sh17 B w (.slice (some ⟨Lb, 0, none⟩) m cap) m n gs L k) : B ≤ Lb ∧ m ≤ cap ∧ Lb < w.heap.size ∧ ∀ i, i < m → w.cell? ⟨Lb, i, none⟩ = some (rowv n (gs i)) ∧ w.frozen? ⟨Lb, i, none⟩ = false := by
  obtain ⟨h1, h4, h5⟩ := h
  rcases h1 with ⟨_, h1⟩ | ⟨h0, Lb', cap', r, e, e0, e1, e2⟩
  · cases h1
  · simp only [Value.slice.injEq, Option.some.injEq, Addr.mk.injEq, and_true, true_and] at e
    obtain ⟨rfl, rfl⟩ := e
    exact ⟨e1, e0, e2.blk, fun i hi => ⟨e2.at (gv17_at hi), e2.fz i⟩⟩
theorem Sh17.lineS {B m n k Lb cap i : Nat} {w : World} {gs : Nat → Nat} {L : Nat → Nat → Int} (h : Sh17 B w (.slice (some ⟨Lb, 0, none⟩) m cap) m n gs L k) (hi : i < m) : w.cell? ⟨Lb, i, none⟩ = some (.slice (some ⟨gs i, 0, none⟩) n n) := (h.line.2.2.2 i hi).1
/-- Two rows change places. -/
theorem Sh17.swap {B m n k Lb cap a b : Nat} {w : World} {gs : Nat → Nat} {L : Nat → Nat → Int} (h : Sh17 B w (.slice (some ⟨Lb, 0, none⟩) m cap) m n gs L k) (ha : a < m) (hb : b < m) :
    Sh17 B ((w.setCell ⟨Lb, a, none⟩ (rowv n (gs b))).setCell ⟨Lb, b, none⟩ (rowv n (gs a))) (.slice (some ⟨Lb, 0, none⟩) m cap) m n (fun i => gs (swi a b i)) (fun i j => L (swi a b i) j) k
      ∧ Below B w ((w.setCell ⟨Lb, a, none⟩ (rowv n (gs b))).setCell ⟨Lb, b, none⟩ (rowv n (gs a))) ∧ Ty 33 w ((w.setCell ⟨Lb, a, none⟩ (rowv n (gs b))).setCell ⟨Lb, b, none⟩ (rowv n (gs a))) ∧ (w.setCell ⟨Lb, a, none⟩ (rowv n (gs b))).cell? ⟨Lb, b, none⟩ ≠ none ∧ (w.setCell ⟨Lb, a, none⟩ (rowv n (gs b))).frozen? ⟨Lb, b, none⟩ = false := by
  obtain ⟨h1, h4, h5⟩ := h
  rcases h1 with ⟨_, h1⟩ | ⟨h0, Lb', cap', r, e, h2, e1, e2⟩
  · cases h1
  simp only [Value.slice.injEq, Option.some.injEq, Addr.mk.injEq, and_true, true_and] at e
  obtain ⟨rfl, rfl⟩ := e
  have d1 := e2.set a (rowv n (gs b))
  have d2 := d1.set b (rowv n (gs a))
  have ty : Ty 33 w ((w.setCell ⟨Lb, a, none⟩ (rowv n (gs b))).setCell ⟨Lb, b, none⟩ (rowv n (gs a))) := (Ty.set e2).trans (Ty.set d1)
  refine ⟨⟨.inr ⟨h0, Lb, cap, r, rfl, h2, e1, ?_⟩, fun i j hi hj q => ?_, fun i hi => ⟨(h5 _ (swi_lt ha hb hi)).1, (h5 _ (swi_lt ha hb hi)).2.ty ty (by decide) (by decide)⟩⟩, bset (bset (Below.refl _ _) e1) e1, ty, ?_, d1.fz b⟩
  · rw [gv17_set ha, gv17_set hb] at d2
    rw [gv17_congr (hs := fun t => if t = b then gs a else if t = a then gs b else gs t) fun i hi => ?_]
    · exact d2
    · show gs (swi a b i) = _
      unfold swi
      by_cases q : i = a
      · rw [if_pos q]
        by_cases q' : i = b
        · rw [if_pos q', ← q, ← q']
        · rw [if_neg q', if_pos q]
      · rw [if_neg q]
        by_cases q' : i = b
        · rw [if_pos q', if_pos q']
        · rw [if_neg q', if_neg q', if_neg q]
  · have := h4 _ _ (swi_lt ha hb hi) (swi_lt ha hb hj) q
    have := congrArg (swi a b) this
    rw [swi_swi, swi_swi] at this
    exact this
  · rw [gv17_set ha] at d1
    rw [d1.at (gv17_at hb)]
    exact fun q => by cases q
def One17 (x y : Value) : Prop := ∃ n a l c, x = .bool n ∧ y = .slice a l c
/-- An elimination in memory. -/
def Elm (B : Nat) (w : World) (Bs m n : Nat) (gs : Nat → Nat) (L : Nat → Nat → Int) (d : Int) (pv : List Nat) (k : Nat) : Prop :=
  ∃ x y lv nd ad ld cd vv, Ebx w Bs x y lv (.bool nd) (.slice ad ld cd) vv ∧ B ≤ Bs ∧ Zm 0 w (.agg #[.bool nd, .slice ad ld cd]) d k ∧ Ivs B w vv pv ∧ Sh17 B w lv m n gs L k ∧ One17 x y
theorem Els.lt {A : Nat → Nat → Int} {m n c k : Nat} {L : Nat → Nat → Int} {d : Int} {pv : List Nat} (h : Els A m n c L d pv) (hK : ∀ f, ((dcl A m n f).natAbs : Int) < pw k) : ((d.natAbs : Int) < pw k) ∧ ∀ i j, i < m → j < n → ((L i j).natAbs : Int) < pw k := by
  obtain ⟨f, s, e⟩ := h.ez
  have hs : s.natAbs = 1 := by
    have := congrArg Int.natAbs e.sg
    rw [Int.natAbs_mul] at this
    exact Nat.eq_one_of_mul_eq_one_left this
  refine ⟨?_, fun i j hi hj => ?_⟩
  · rw [e.de, Int.natAbs_mul, hs, Nat.one_mul]; exact hK _
  · rw [e.be i j hi hj, Int.natAbs_mul, hs, Nat.one_mul]; exact hK _
/-- The lines after the first i have been crossed. -/
def mixT (L L' : Nat → Nat → Int) (i t j : Nat) : Int := if t < i then L' t j else L t j
/-- What a step makes of the lines: the first one at p, its column c. -/
def crs (L : Nat → Nat → Int) (d : Int) (p c t j : Nat) : Int := if t = p then L t j else (L p c * L t j - L t c * L p j).tdiv d
theorem Els.crs {A : Nat → Nat → Int} {m n c : Nat} {L : Nat → Nat → Int} {d : Int} {pv : List Nat} (h : Els A m n c L d pv) (hp : pv.length < m) (hc : c < n) (hnz : L pv.length c ≠ 0) : Els A m n (c + 1) (crs L d pv.length c) (L pv.length c) (pv ++ [c]) := by
  refine h.step hp hc hnz (fun i j hi hj hne => ?_) fun j hj => by unfold Go.Proofs.YtcceoildbnoliaaGreat.crs; rw [if_pos rfl]
  unfold Go.Proofs.YtcceoildbnoliaaGreat.crs
  rw [if_neg hne]
  exact Int.mul_tdiv_cancel' (h.dvd hp hc hi hj hne)
end Go.Proofs.YtcceoildbnoliaaGreat

/- Rq8 -/
namespace Go.Proofs.YtcceoildbnoliaaGreat
set_option linter.unusedVariables false

theorem divInt_parts {N D : Int} (hD : D ≠ 0) (hp : 0 < D) : ((Int.gcd N D : Int) ≠ 0 ∧ N.tmod (Int.gcd N D : Int) = 0 ∧ D.tmod (Int.gcd N D : Int) = 0) ∧ N.tdiv (Int.gcd N D : Int) = (Rat.divInt N D).num ∧ D.tdiv (Int.gcd N D : Int) = ((Rat.divInt N D).den : Int) := by
  have g0 : (Int.gcd N D : Int) ≠ 0 := by
    have := Int.gcd_pos_of_ne_zero_right N hD
    omega
  have dN : (Int.gcd N D : Int) ∣ N := Int.gcd_dvd_left ..
  have dD : (Int.gcd N D : Int) ∣ D := Int.gcd_dvd_right ..
  refine ⟨⟨g0, Int.tmod_eq_zero_of_dvd dN, Int.tmod_eq_zero_of_dvd dD⟩, ?_, ?_⟩
  · rw [Rat.num_divInt, Int.sign_eq_one_of_pos hp, Int.one_mul, Int.gcd_comm D N]
    exact Int.tdiv_eq_ediv_of_dvd dN
  · rw [Rat.den_divInt, if_neg hD, Int.gcd_comm D N, Int.tdiv_eq_ediv_of_dvd dD]
    push_cast
    rw [Int.natAbs_of_nonneg (Int.le_of_lt hp)]
theorem divInt_parts_neg {N D : Int} (hp : D < 0) : (-(Int.gcd N D : Int) ≠ 0 ∧ N.tmod (-(Int.gcd N D : Int)) = 0 ∧ D.tmod (-(Int.gcd N D : Int)) = 0) ∧ N.tdiv (-(Int.gcd N D : Int)) = (Rat.divInt N D).num ∧ D.tdiv (-(Int.gcd N D : Int)) = ((Rat.divInt N D).den : Int) := by
  have hD : D ≠ 0 := by omega
  have g0 : (Int.gcd N D : Int) ≠ 0 := by
    have := Int.gcd_pos_of_ne_zero_right N hD
    omega
  have dN : (Int.gcd N D : Int) ∣ N := Int.gcd_dvd_left ..
  have dD : (Int.gcd N D : Int) ∣ D := Int.gcd_dvd_right ..
  have dN' : -(Int.gcd N D : Int) ∣ N := Int.neg_dvd.2 dN
  have dD' : -(Int.gcd N D : Int) ∣ D := Int.neg_dvd.2 dD
  refine ⟨⟨by omega, Int.tmod_eq_zero_of_dvd dN', Int.tmod_eq_zero_of_dvd dD'⟩, ?_, ?_⟩
  · rw [Rat.num_divInt, Int.sign_eq_neg_one_of_neg hp, Int.gcd_comm D N, Int.tdiv_neg, Int.tdiv_eq_ediv_of_dvd dN]
    rw [Int.neg_mul, Int.one_mul]
    exact (Int.neg_ediv_of_dvd dN).symm
  · rw [Rat.den_divInt, if_neg hD, Int.gcd_comm D N, Int.tdiv_neg, Int.tdiv_eq_ediv_of_dvd dD]
    push_cast
    rw [← Int.neg_ediv_of_dvd dD]
    congr 1
    omega
end Go.Proofs.YtcceoildbnoliaaGreat

/- Cf8 -/
namespace Go.Proofs.YtcceoildbnoliaaGreat
open Go.RowKit
set_option linter.unusedVariables false

theorem Zm.put4f {B : Nat} {w : World} {v : Value} {z : Int} {k : Nat} (h : Zm B w v z k) {b : Nat} {x0 x1 x2 x3 : Value} (d : Cel w b 47 [x0, x1, x2, x3]) (y0 y1 y2 y3 : Value) : Zm B (put4 w b y0 y1 y2 y3) v z k := by
  have d1 := d.set 0 y0
  have d2 := d1.set 1 y1
  have d3 := d2.set 2 y2
  exact (((h.cel d (by decide)).cel d1 (by decide)).cel d2 (by decide)).cel d3 (by decide)
/-- The result of a call that answers a fraction and an error. -/
theorem fback {f : Func} {s1 s3 : Nat} (hr : f.results = #[ResultVar.cell s1 47, ResultVar.tmp s3]) {W : World} {b : Nat} {x0 x1 x2 x3 e : Value} (h : Cel W b 47 [x0, x1, x2, x3]) (tmps : Array Value) (ht : tmps[s1]? = some (.pointer (some ⟨b, 0, none⟩))) (he : tmps[s3]? = some e) :
    (results f tmps).run Tryz.prog W = .ok (.tuple #[.agg #[x0, x1, x2, x3], e]) W := by
  simp [results, hr, go_sem, ht, he, h.at (i := 0) rfl, h.at (i := 1) rfl, h.at (i := 2) rfl, h.at (i := 3) rfl]
/-- A fraction in lowest terms, and no error. -/
def GivesF (w : World) (q : Rat) (k : Nat) (e : Ending) (w' : World) : Prop := ∃ r0 r1 r2 r3, e = .returned (.tuple #[.agg #[r0, r1, r2, r3], .int .i64 0]) ∧ Zm w.heap.size w' (.agg #[r0, r1]) q.num k ∧ Zm w.heap.size w' (.agg #[r2, r3]) (q.den : Int) k ∧ Below w.heap.size w w'
theorem gf_end {w W : World} {b : Nat} {x0 x1 x2 x3 y0 y1 y2 y3 : Value} {q : Rat} {k : Nat} {B B' : Nat} (d : Cel W b 47 [x0, x1, x2, x3]) (h : Zm B W (.agg #[y0, y1]) q.num k) (h' : Zm B' W (.agg #[y2, y3]) (q.den : Int) k) (hW : Below w.heap.size w W) (hb : w.heap.size ≤ b) (hB : w.heap.size ≤ B) (hB' : w.heap.size ≤ B') :
    GivesF w q k (.returned (.tuple #[.agg #[y0, y1, y2, y3], .int .i64 0])) (put4 W b y0 y1 y2 y3) :=
  ⟨y0, y1, y2, y3, rfl, (h.put4f d _ _ _ _).mono hB, (h'.put4f d _ _ _ _).mono hB', (((hW.setCell (p := ⟨b, 0, none⟩) hb _).setCell (p := ⟨b, 1, none⟩) hb _).setCell (p := ⟨b, 2, none⟩) hb _).setCell (p := ⟨b, 3, none⟩) hb _⟩
end Go.Proofs.YtcceoildbnoliaaGreat
