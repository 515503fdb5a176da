/-
  QEr13ToRk17: Er13, Cr13, Ad14, Uq13, Sp13, Gc14, Tb14, To14, Lin17, Dim17, Sl17, Rk17, joined.
-/
import Derived.Test.YthpldhaolpmneaaGreatQDu12ToTailL

/- Er13 -/
namespace Go.Proofs.YthpldhaolpmneaaGreat
set_option linter.unusedVariables false

end Go.Proofs.YthpldhaolpmneaaGreat

/- Cr13 -/
namespace Go.Proofs.YthpldhaolpmneaaGreat
set_option linter.unusedVariables false

end Go.Proofs.YthpldhaolpmneaaGreat

/- Ad14 -/
namespace Go.Proofs.YthpldhaolpmneaaGreat
set_option linter.unusedVariables false

/-- The adjugate's entry: the determinant with row j a row of the unit matrix. -/
def adz (n : Nat) (A : Nat → Nat → Int) (i j : Nat) : Int := det n (stR A j (dlz i))
theorem su_dlz {n c : Nat} (hc : c < n) (f : Nat → Int) : su n (fun k => f k * dlz k c) = f c := by
  rw [su_one (i := c) hc fun k _ hk => by unfold dlz; rw [if_neg hk]; simp]
  unfold dlz; simp
theorem adz_row {n : Nat} (A : Nat → Nat → Int) {j : Nat} (hj : j < n) (u : Nat → Int) : su n (fun k => u k * adz n A k j) = det n (stR A j u) := by
  unfold adz
  rw [← (det_alt n).sum hj u dlz n]
  refine det_congr fun r c hr hc => ?_
  by_cases q : r = j
  · subst q; rw [stR_at, stR_at]; exact su_dlz hc u
  · rw [stR_off _ q, stR_off _ q]
/-- a times its adjugate. -/
theorem adz_mul {n r j : Nat} (A : Nat → Nat → Int) (hr : r < n) (hj : j < n) : su n (fun k => A r k * adz n A k j) = if r = j then det n A else 0 := by
  rw [adz_row A hj (A r)]
  by_cases q : r = j
  · subst q; rw [if_pos rfl, stR_self]
  · rw [if_neg q]
    exact (det_alt n).same hr hj q fun c _ => by rw [stR_off _ q, stR_at]
theorem det_addrow {n j : Nat} (A : Nat → Nat → Int) (hj : j < n) (x : Nat → Int) : ∀ m, m ≤ n → det n (fun r c => if r < m ∧ r ≠ j then A r c + x r * A j c else A r c) = det n A
  | 0, _ => det_congr fun r c _ _ => by rw [if_neg (by omega)]
  | m + 1, hm => by
    rw [← det_addrow A hj x m (by omega)]
    by_cases q : m = j
    · exact det_congr fun r c _ _ => by
        by_cases c1 : r < m ∧ r ≠ j
        · rw [if_pos c1, if_pos (by omega)]
        · rw [if_neg c1, if_neg (by omega)]
    · obtain ⟨P, hP⟩ : ∃ P : Nat → Nat → Int, P = fun r c => if r < m ∧ r ≠ j then A r c + x r * A j c else A r c := ⟨_, rfl⟩
      have hp := (det_alt n).plus (A := P) (show m < n by omega) hj q (x m)
      rw [← hP, ← hp]
      refine det_congr fun r c _ _ => ?_
      by_cases e : r = m
      · subst e
        rw [stR_at, if_pos (by omega), hP]
        simp only []
        rw [if_neg (by omega), if_neg (by omega)]
      · rw [stR_off _ e, hP]
        simp only []
        by_cases c1 : r < m ∧ r ≠ j
        · rw [if_pos c1, if_pos (by omega)]
        · rw [if_neg c1, if_neg (by omega)]
/-- Row j and column i made those of the unit matrix. -/
theorem adz_cross {n i j : Nat} (A : Nat → Nat → Int) (hj : j < n) : adz n A i j = det n fun r c => if r = j then dlz i c else if c = i then 0 else A r c := by
  unfold adz
  rw [← det_addrow (stR A j (dlz i)) hj (fun r => - A r i) n (Nat.le_refl _)]
  refine det_congr fun r c hr hc => ?_
  by_cases q : r = j
  · subst q
    rw [if_neg (by omega), if_pos rfl, stR_at]
  · rw [if_pos ⟨hr, q⟩, if_neg q, stR_off _ q, stR_at]
    unfold dlz
    by_cases e : c = i
    · subst e; rw [if_pos rfl, if_pos rfl]; omega
    · rw [if_neg e, if_neg (Ne.symm e)]; omega
theorem adz_turn {n i j : Nat} (A : Nat → Nat → Int) (hi : i < n) (hj : j < n) : adz n (fun a b => A b a) j i = adz n A i j := by
  rw [adz_cross A hj, adz_cross _ hi, ← det_turn]
  refine det_congr fun r c hr hc => ?_
  simp only [dlz]
  by_cases q : r = j
  · by_cases e : c = i
    · simp [q, e]
    · simp [q, e, Ne.symm e]
  · by_cases e : c = i
    · simp [q, e, Ne.symm q]
    · simp [q, e]
/-- The adjugate times a. -/
theorem mul_adz {n i c : Nat} (A : Nat → Nat → Int) (hi : i < n) (hc : c < n) : su n (fun k => adz n A i k * A k c) = if i = c then det n A else 0 := by
  have h := adz_mul (fun a b => A b a) hc hi
  rw [det_turn] at h
  have e : su n (fun k => adz n A i k * A k c) = su n (fun k => A k c * adz n (fun a b => A b a) k i) := su_congr fun k hk => by
    rw [adz_turn A hi hk, Int.mul_comm]
  rw [e, h]
  by_cases q : i = c
  · subst q; rfl
  · rw [if_neg q, if_neg (Ne.symm q)]
end Go.Proofs.YthpldhaolpmneaaGreat

/- Uq13 -/
namespace Go.Proofs.YthpldhaolpmneaaGreat
set_option linter.unusedVariables false

section
variable {A : Nat → Nat → Int} {n i : Nat} {rs cs rs' cs' : List Nat} {odd odd' : Bool}
end
end Go.Proofs.YthpldhaolpmneaaGreat

/- Sp13 -/
namespace Go.Proofs.YthpldhaolpmneaaGreat
set_option linter.unusedVariables false

section
variable {n t : Nat} {L : Nat → Nat → Int} {u v : Nat → Int}
end
section
variable {A : Nat → Nat → Int} {n i : Nat} {rs cs : List Nat} {odd : Bool}
end
section
variable {A B : Nat → Nat → Int} {n i k : Nat} {rs cs rs' cs' : List Nat} {odd odd' : Bool}
end
end Go.Proofs.YthpldhaolpmneaaGreat

/- Gc14 -/
namespace Go.Proofs.YthpldhaolpmneaaGreat
set_option linter.unusedVariables false

end Go.Proofs.YthpldhaolpmneaaGreat

/- Tb14 -/
namespace Go.Proofs.YthpldhaolpmneaaGreat
set_option linter.unusedVariables false

/-- A column of the matrix with the unit matrix beside it. -/
def vcl (A : Nat → Nat → Int) (n c i : Nat) : Int := if c < n then A i c else dlz (c - n) i
/-- The determinant of the columns with these numbers. -/
def dcl (A : Nat → Nat → Int) (m n : Nat) (f : Nat → Nat) : Int := det m fun p => vcl A n (f p)
def stf (f : Nat → Nat) (i c : Nat) : Nat → Nat := fun p => if p = i then c else f p
theorem dcl_st (A : Nat → Nat → Int) (m n : Nat) (f : Nat → Nat) (i c : Nat) : dcl A m n (stf f i c) = det m (stR (fun p => vcl A n (f p)) i (vcl A n c)) := by
  unfold dcl
  congr 1
  funext p k
  unfold stf stR
  split <;> rfl
/-- Every line is a sum of the others' lines, by determinants. -/
theorem cramer14 {m k : Nat} (B : Nat → Nat → Int) (u : Nat → Int) (hk : k < m) : su m (fun i => det m (stR B i u) * B i k) = det m B * u k := by
  have h1 : ∀ i, i < m → det m (stR B i u) * B i k = su m fun t => u t * (adz m B t i * B i k) := fun i hi => by
    rw [← adz_row B hi u, ← su_mulr]
    exact su_congr fun t _ => by grind
  rw [su_congr h1, su_swap]
  have h2 : ∀ t, t < m → su m (fun i => u t * (adz m B t i * B i k)) = if t = k then u k * det m B else 0 := fun t ht => by
    rw [su_mul, mul_adz B ht hk]
    by_cases q : t = k
    · subst q; rw [if_pos rfl, if_pos rfl]
    · rw [if_neg q, if_neg q, Int.mul_zero]
  rw [su_congr h2, su_one hk (fun t _ ht => if_neg ht), if_pos rfl, Int.mul_comm]
theorem det_swp {m p i : Nat} (B : Nat → Nat → Int) (u : Nat → Int) (hp : p < m) (hi : i < m) (h : i ≠ p) : det m (stR (stR B p u) i (B p)) = - det m (stR B i u) := by
  rw [← (det_alt m).swap (A := stR B i u) hp hi (Ne.symm h)]
  congr 1
  funext r c
  unfold stR
  by_cases a : r = i
  · rw [if_pos a, if_pos a, if_neg (Ne.symm h)]
  · by_cases b : r = p
    · rw [if_neg a, if_neg a, if_pos b, if_pos b, if_pos rfl]
    · rw [if_neg a, if_neg a, if_neg b, if_neg b, if_neg a]
theorem su_pick14 {m i p : Nat} {F : Nat → Int} (hi : i < m) (hp : p < m) (h : i ≠ p) (hz : ∀ t, t < m → t ≠ i → t ≠ p → F t = 0) : su m F = F i + F p := by
  have e : ∀ t, t < m → F t = (if t = i then F i else 0) + (if t = p then F p else 0) := fun t ht => by
    by_cases a : t = i
    · subst a; rw [if_pos rfl, if_neg h, Int.add_zero]
    · by_cases b : t = p
      · subst b; rw [if_neg a, if_pos rfl, Int.zero_add]
      · rw [if_neg a, if_neg b, hz t ht a b]; rfl
  rw [su_congr e, su_add, su_one hi (fun k _ hk => if_neg hk), su_one hp (fun k _ hk => if_neg hk), if_pos rfl, if_pos rfl]
/-- A table: the basis f, the others g, the entries, the determinant. -/
structure Tbl (A : Nat → Nat → Int) (m n : Nat) (f g : Nat → Nat) (by_ : Nat → Nat → Int) (d : Int) : Prop where
  nz : d ≠ 0
  de : dcl A m n f = d
  be : ∀ i j, i < m → j < n → by_ i j = dcl A m n (stf f i (g j))
  fi : ∀ i j, i < m → j < m → f i = f j → i = j
  gi : ∀ i j, i < n → j < n → g i = g j → i = j
  fg : ∀ i j, i < m → j < n → f i ≠ g j
  fl : ∀ i, i < m → f i < n + m
  gl : ∀ j, j < n → g j < n + m
  cov : ∀ c, c < n + m → (∃ i, i < m ∧ f i = c) ∨ ∃ j, j < n ∧ g j = c
theorem Tbl.start (A : Nat → Nat → Int) (m n : Nat) : Tbl A m n (fun i => n + i) (fun j => j) A 1 := by
  have e : ∀ p k, vcl A n (n + p) k = dlz p k := fun p k => by unfold vcl; rw [if_neg (by omega), Nat.add_sub_cancel_left]
  refine ⟨by decide, ?_, fun i j hi hj => ?_, fun i j _ _ h => by omega, fun i j _ _ h => h, fun i j _ _ => by omega, fun i h => by omega, fun j h => by omega, fun c hc => ?_⟩
  · unfold dcl
    rw [det_congr (B := dlz) fun p k _ _ => e p k]
    exact det_unit m
  · rw [dcl_st, det_congr (B := stR dlz i fun k => su m fun t => A t j * dlz t k) fun r c hr hc => ?_, det_comb dlz hi fun t => A t j, det_unit, Int.mul_one]
    unfold stR
    by_cases q : r = i
    · rw [if_pos q, if_pos q]
      show vcl A n j c = su m fun t => A t j * dlz t c
      rw [su_dlz hc]; unfold vcl; rw [if_pos hj]
    · rw [if_neg q, if_neg q]; exact e r c
  · by_cases q : c < n
    · exact .inr ⟨c, q, rfl⟩
    · exact .inl ⟨c - n, by omega, by omega⟩
end Go.Proofs.YthpldhaolpmneaaGreat

/- To14 -/
namespace Go.Proofs.YthpldhaolpmneaaGreat
set_option linter.unusedVariables false

end Go.Proofs.YthpldhaolpmneaaGreat

/- Lin17 -/
namespace Go.Proofs.YthpldhaolpmneaaGreat.Q17
set_option linter.unusedVariables false


def sm : Nat → (Nat → Rat) → Rat
  | 0, _ => 0
  | n + 1, f => sm n f + f n
theorem sm_congr : ∀ {n : Nat} {f g : Nat → Rat}, (∀ k, k < n → f k = g k) → sm n f = sm n g
  | 0, _, _, _ => rfl
  | n + 1, f, g, h => by
    simp only [sm]
    rw [sm_congr (n := n) (fun k hk => h k (by omega)), h n (by omega)]
theorem sm_zero : ∀ {n : Nat} {f : Nat → Rat}, (∀ k, k < n → f k = 0) → sm n f = 0
  | 0, _, _ => rfl
  | n + 1, f, h => by
    simp only [sm]
    rw [sm_zero (n := n) (fun k hk => h k (by omega)), h n (by omega)]
    grind
theorem sm_add : ∀ (n : Nat) (f g : Nat → Rat), sm n (fun k => f k + g k) = sm n f + sm n g
  | 0, _, _ => by simp only [sm]; grind
  | n + 1, f, g => by
    simp only [sm]
    rw [sm_add n f g]
    grind
theorem sm_mul : ∀ (n : Nat) (c : Rat) (f : Nat → Rat), sm n (fun k => c * f k) = c * sm n f
  | 0, _, _ => by simp only [sm]; grind
  | n + 1, c, f => by
    simp only [sm]
    rw [sm_mul n c f]
    grind
/-- One place alone counts. -/
theorem sm_one : ∀ {n i : Nat} {f : Nat → Rat}, i < n → (∀ k, k < n → k ≠ i → f k = 0) → sm n f = f i
  | 0, i, f, h, _ => by omega
  | n + 1, i, f, h, hz => by
    simp only [sm]
    by_cases e : i = n
    · subst e
      rw [sm_zero (fun k hk => hz k (by omega) (by omega))]
      grind
    · rw [sm_one (i := i) (by omega) (fun k hk hne => hz k (by omega) hne), hz n (by omega) (fun q => e q.symm)]
      grind
def dlt (i j : Nat) : Rat := if i = j then 1 else 0
/-- x (of length m) times M. -/
def vm (m : Nat) (x : Nat → Rat) (M : Nat → Nat → Rat) (j : Nat) : Rat := sm m (fun i => x i * M i j)
theorem vm_dlt {m i : Nat} (hi : i < m) (A : Nat → Nat → Rat) (j : Nat) : vm m (dlt i) A j = A i j := by
  unfold vm
  rw [sm_one hi (fun k _ hne => by unfold dlt; rw [if_neg (fun q => hne q.symm)]; grind)]
  unfold dlt
  rw [if_pos rfl]
  grind

/-- The rows of M (m of them) are combinations of the rows of A (l of them), in the first n columns. -/
def Comb (n m l : Nat) (M A : Nat → Nat → Rat) : Prop := ∃ U : Nat → Nat → Rat, ∀ i j, i < m → j < n → M i j = vm l (U i) A j
theorem Comb.refl (n m : Nat) (M : Nat → Nat → Rat) : Comb n m m M M := ⟨dlt, fun i j hi _ => (vm_dlt hi M j).symm⟩
/-- A matrix whose rows are each one row of A times a number plus another row of A times a number. -/
theorem Comb.two {n m : Nat} {M A : Nat → Nat → Rat} {f g : Nat → Nat} {a b : Nat → Rat} (hf : ∀ i, i < m → f i < m) (hg : ∀ i, i < m → g i < m) (h : ∀ i j, i < m → j < n → M i j = a i * A (f i) j + b i * A (g i) j) : Comb n m m M A := by
  refine ⟨fun i k => a i * dlt (f i) k + b i * dlt (g i) k, fun i j hi hj => ?_⟩
  rw [h i j hi hj]
  unfold vm
  rw [sm_congr (g := fun k => a i * (dlt (f i) k * A k j) + b i * (dlt (g i) k * A k j)) (fun k _ => by grind), sm_add, sm_mul, sm_mul]
  have e1 := vm_dlt (hf i hi) A j
  have e2 := vm_dlt (hg i hi) A j
  unfold vm at e1 e2
  rw [e1, e2]
def Eqv (n m : Nat) (M A : Nat → Nat → Rat) : Prop := Comb n m m M A ∧ Comb n m m A M
theorem Eqv.refl (n m : Nat) (M : Nat → Nat → Rat) : Eqv n m M M := ⟨Comb.refl _ _ _, Comb.refl _ _ _⟩
theorem Eqv.trans {n m : Nat} {M A B : Nat → Nat → Rat} (h1 : Eqv n m M A) (h2 : Eqv n m A B) : Eqv n m M B := ⟨h1.1.trans h2.1, h2.2.trans h1.2⟩
/-- Reduced echelon form in the first c columns, with these pivots. -/
structure Rref (m c : Nat) (M : Nat → Nat → Rat) (pv : List Nat) : Prop where
  len : pv.length ≤ m
  inc : ∀ (s t a b : Nat), s < t → pv[s]? = some a → pv[t]? = some b → a < b
  lt : ∀ (t a : Nat), pv[t]? = some a → a < c
  one : ∀ (t a i : Nat), pv[t]? = some a → i < m → M i a = dlt i t
  low : ∀ (t a j : Nat), pv[t]? = some a → j < a → M t j = 0
  zer : ∀ (i j : Nat), pv.length ≤ i → i < m → j < c → M i j = 0
theorem Rref.start (m : Nat) (M : Nat → Nat → Rat) : Rref m 0 M [] :=
  ⟨by simp, fun s t a b _ h => by simp at h, fun t a h => by simp at h, fun t a i h => by simp at h, fun t a j h => by simp at h, fun i j _ _ h => by omega⟩
end Go.Proofs.YthpldhaolpmneaaGreat.Q17

/- Dim17 -/
namespace Go.Proofs.YthpldhaolpmneaaGreat.Q17
set_option linter.unusedVariables false


end Go.Proofs.YthpldhaolpmneaaGreat.Q17

/- Sl17 -/
namespace Go.Proofs.YthpldhaolpmneaaGreat.Q17
set_option linter.unusedVariables false

end Go.Proofs.YthpldhaolpmneaaGreat.Q17

/- Rk17 -/
namespace Go.Proofs.YthpldhaolpmneaaGreat
set_option linter.unusedVariables false
open Q17 (sm vm Comb Rref)

theorem cast_su : ∀ (t : Nat) (f : Nat → Int), ((su t f : Int) : Rat) = sm t fun a => (f a : Rat)
  | 0, f => by simp [su, sm]
  | t + 1, f => by
    simp only [su, sm]
    rw [Rat.intCast_add, cast_su t f]
theorem cast_ne {N : Int} (h : N ≠ 0) : (N : Rat) ≠ 0 := fun e => h (Rat.intCast_inj.1 (by simpa using e))
/-- A whole matrix as one of fractions. -/
def qm (A : Nat → Nat → Int) (i j : Nat) : Rat := (A i j : Rat)
end Go.Proofs.YthpldhaolpmneaaGreat
