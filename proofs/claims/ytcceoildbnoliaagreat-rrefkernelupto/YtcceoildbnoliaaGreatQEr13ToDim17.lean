/-
  QEr13ToDim17: Er13, Cr13, Ad14, Uq13, Sp13, Gc14, Tb14, To14, Lin17, Dim17, joined.
-/
import Derived.Test.YtcceoildbnoliaaGreatQDu12ToTailL

/- Er13 -/
namespace Go.Proofs.YtcceoildbnoliaaGreat
set_option linter.unusedVariables false

end Go.Proofs.YtcceoildbnoliaaGreat

/- Cr13 -/
namespace Go.Proofs.YtcceoildbnoliaaGreat
set_option linter.unusedVariables false

end Go.Proofs.YtcceoildbnoliaaGreat

/- Ad14 -/
namespace Go.Proofs.YtcceoildbnoliaaGreat
set_option linter.unusedVariables false

/-- The adjugate's entry: the determinant with row j a row of the unit matrix. -/
def adz (n : Nat) (A : Nat → Nat → Int) (i j : Nat) : Int := det n (stR A j (dlz i))
theorem su_dlz {n c : Nat} (hc : c < n) (f : Nat → Int) : su n (fun k => f k * dlz k c) = f c := by
  rw [su_one (i := c) hc fun k _ hk => by unfold dlz; rw [if_neg hk]; simp]
  unfold dlz; simp
theorem adz_row {n : Nat} (A : Nat → Nat → Int) {j : Nat} (hj : j < n) (u : Nat → Int) : su n (fun k => u k * adz n A k j) = det n (stR A j u) := by
  unfold adz
  rw [← (det_alt n).sum hj u dlz n]
  refine det_congr fun r c hr hc => ?_
  by_cases q : r = j
  · subst q; rw [stR_at, stR_at]; exact su_dlz hc u
  · rw [stR_off _ q, stR_off _ q]
/-- a times its adjugate. -/
theorem adz_mul {n r j : Nat} (A : Nat → Nat → Int) (hr : r < n) (hj : j < n) : su n (fun k => A r k * adz n A k j) = if r = j then det n A else 0 := by
  rw [adz_row A hj (A r)]
  by_cases q : r = j
  · subst q; rw [if_pos rfl, stR_self]
  · rw [if_neg q]
    exact (det_alt n).same hr hj q fun c _ => by rw [stR_off _ q, stR_at]
theorem det_addrow {n j : Nat} (A : Nat → Nat → Int) (hj : j < n) (x : Nat → Int) : ∀ m, m ≤ n → det n (fun r c => if r < m ∧ r ≠ j then A r c + x r * A j c else A r c) = det n A
  | 0, _ => det_congr fun r c _ _ => by rw [if_neg (by omega)]
  | m + 1, hm => by
    rw [← det_addrow A hj x m (by omega)]
    by_cases q : m = j
    · exact det_congr fun r c _ _ => by
        by_cases c1 : r < m ∧ r ≠ j
        · rw [if_pos c1, if_pos (by omega)]
        · rw [if_neg c1, if_neg (by omega)]
    · obtain ⟨P, hP⟩ : ∃ P : Nat → Nat → Int, P = fun r c => if r < m ∧ r ≠ j then A r c + x r * A j c else A r c := ⟨_, rfl⟩
      have hp := (det_alt n).plus (A := P) (show m < n by omega) hj q (x m)
      rw [← hP, ← hp]
      refine det_congr fun r c _ _ => ?_
      by_cases e : r = m
      · subst e
        rw [stR_at, if_pos (by omega), hP]
        simp only []
        rw [if_neg (by omega), if_neg (by omega)]
      · rw [stR_off _ e, hP]
        simp only []
        by_cases c1 : r < m ∧ r ≠ j
        · rw [if_pos c1, if_pos (by omega)]
        · rw [if_neg c1, if_neg (by omega)]
/-- Row j and column i made those of the unit matrix. -/
theorem adz_cross {n i j : Nat} (A : Nat → Nat → Int) (hj : j < n) : adz n A i j = det n fun r c => if r = j then dlz i c else if c = i then 0 else A r c := by
  unfold adz
  rw [← det_addrow (stR A j (dlz i)) hj (fun r => - A r i) n (Nat.le_refl _)]
  refine det_congr fun r c hr hc => ?_
  by_cases q : r = j
  · subst q
    rw [if_neg (by omega), if_pos rfl, stR_at]
  · rw [if_pos ⟨hr, q⟩, if_neg q, stR_off _ q, stR_at]
    unfold dlz
    by_cases e : c = i
    · subst e; rw [if_pos rfl, if_pos rfl]; omega
    · rw [if_neg e, if_neg (Ne.symm e)]; omega
theorem adz_turn {n i j : Nat} (A : Nat → Nat → Int) (hi : i < n) (hj : j < n) : adz n (fun a b => A b a) j i = adz n A i j := by
  rw [adz_cross A hj, adz_cross _ hi, ← det_turn]
  refine det_congr fun r c hr hc => ?_
  simp only [dlz]
  by_cases q : r = j
  · by_cases e : c = i
    · simp [q, e]
    · simp [q, e, Ne.symm e]
  · by_cases e : c = i
    · simp [q, e, Ne.symm q]
    · simp [q, e]
/-- The adjugate times a. -/
theorem mul_adz {n i c : Nat} (A : Nat → Nat → Int) (hi : i < n) (hc : c < n) : su n (fun k => adz n A i k * A k c) = if i = c then det n A else 0 := by
  have h := adz_mul (fun a b => A b a) hc hi
  rw [det_turn] at h
  have e : su n (fun k => adz n A i k * A k c) = su n (fun k => A k c * adz n (fun a b => A b a) k i) := su_congr fun k hk => by
    rw [adz_turn A hi hk, Int.mul_comm]
  rw [e, h]
  by_cases q : i = c
  · subst q; rfl
  · rw [if_neg q, if_neg (Ne.symm q)]
end Go.Proofs.YtcceoildbnoliaaGreat

/- Uq13 -/
namespace Go.Proofs.YtcceoildbnoliaaGreat
set_option linter.unusedVariables false

section
variable {A : Nat → Nat → Int} {n i : Nat} {rs cs rs' cs' : List Nat} {odd odd' : Bool}
end
end Go.Proofs.YtcceoildbnoliaaGreat

/- Sp13 -/
namespace Go.Proofs.YtcceoildbnoliaaGreat
set_option linter.unusedVariables false

section
variable {n t : Nat} {L : Nat → Nat → Int} {u v : Nat → Int}
end
section
variable {A : Nat → Nat → Int} {n i : Nat} {rs cs : List Nat} {odd : Bool}
end
section
variable {A B : Nat → Nat → Int} {n i k : Nat} {rs cs rs' cs' : List Nat} {odd odd' : Bool}
end
end Go.Proofs.YtcceoildbnoliaaGreat

/- Gc14 -/
namespace Go.Proofs.YtcceoildbnoliaaGreat
set_option linter.unusedVariables false

end Go.Proofs.YtcceoildbnoliaaGreat

/- Tb14 -/
namespace Go.Proofs.YtcceoildbnoliaaGreat
set_option linter.unusedVariables false

/-- A column of the matrix with the unit matrix beside it. -/
def vcl (A : Nat → Nat → Int) (n c i : Nat) : Int := if c < n then A i c else dlz (c - n) i
/-- The determinant of the columns with these numbers. -/
def dcl (A : Nat → Nat → Int) (m n : Nat) (f : Nat → Nat) : Int := det m fun p => vcl A n (f p)
def stf (f : Nat → Nat) (i c : Nat) : Nat → Nat := fun p => if p = i then c else f p
theorem dcl_st (A : Nat → Nat → Int) (m n : Nat) (f : Nat → Nat) (i c : Nat) : dcl A m n (stf f i c) = det m (stR (fun p => vcl A n (f p)) i (vcl A n c)) := by
  unfold dcl
  congr 1
  funext p k
  unfold stf stR
  split <;> rfl
/-- Every line is a sum of the others' lines, by determinants. -/
theorem cramer14 {m k : Nat} (B : Nat → Nat → Int) (u : Nat → Int) (hk : k < m) : su m (fun i => det m (stR B i u) * B i k) = det m B * u k := by
  have h1 : ∀ i, i < m → det m (stR B i u) * B i k = su m fun t => u t * (adz m B t i * B i k) := fun i hi => by
    rw [← adz_row B hi u, ← su_mulr]
    exact su_congr fun t _ => by grind
  rw [su_congr h1, su_swap]
  have h2 : ∀ t, t < m → su m (fun i => u t * (adz m B t i * B i k)) = if t = k then u k * det m B else 0 := fun t ht => by
    rw [su_mul, mul_adz B ht hk]
    by_cases q : t = k
    · subst q; rw [if_pos rfl, if_pos rfl]
    · rw [if_neg q, if_neg q, Int.mul_zero]
  rw [su_congr h2, su_one hk (fun t _ ht => if_neg ht), if_pos rfl, Int.mul_comm]
theorem det_swp {m p i : Nat} (B : Nat → Nat → Int) (u : Nat → Int) (hp : p < m) (hi : i < m) (h : i ≠ p) : det m (stR (stR B p u) i (B p)) = - det m (stR B i u) := by
  rw [← (det_alt m).swap (A := stR B i u) hp hi (Ne.symm h)]
  congr 1
  funext r c
  unfold stR
  by_cases a : r = i
  · rw [if_pos a, if_pos a, if_neg (Ne.symm h)]
  · by_cases b : r = p
    · rw [if_neg a, if_neg a, if_pos b, if_pos b, if_pos rfl]
    · rw [if_neg a, if_neg a, if_neg b, if_neg b, if_neg a]
theorem su_pick14 {m i p : Nat} {F : Nat → Int} (hi : i < m) (hp : p < m) (h : i ≠ p) (hz : ∀ t, t < m → t ≠ i → t ≠ p → F t = 0) : su m F = F i + F p := by
  have e : ∀ t, t < m → F t = (if t = i then F i else 0) + (if t = p then F p else 0) := fun t ht => by
    by_cases a : t = i
    · subst a; rw [if_pos rfl, if_neg h, Int.add_zero]
    · by_cases b : t = p
      · subst b; rw [if_neg a, if_pos rfl, Int.zero_add]
      · rw [if_neg a, if_neg b, hz t ht a b]; rfl
  rw [su_congr e, su_add, su_one hi (fun k _ hk => if_neg hk), su_one hp (fun k _ hk => if_neg hk), if_pos rfl, if_pos rfl]
/-- A table: the basis f, the others g, the entries, the determinant. -/
structure Tbl (A : Nat → Nat → Int) (m n : Nat) (f g : Nat → Nat) (by_ : Nat → Nat → Int) (d : Int) : Prop where
  nz : d ≠ 0
  de : dcl A m n f = d
  be : ∀ i j, i < m → j < n → by_ i j = dcl A m n (stf f i (g j))
  fi : ∀ i j, i < m → j < m → f i = f j → i = j
  gi : ∀ i j, i < n → j < n → g i = g j → i = j
  fg : ∀ i j, i < m → j < n → f i ≠ g j
  fl : ∀ i, i < m → f i < n + m
  gl : ∀ j, j < n → g j < n + m
  cov : ∀ c, c < n + m → (∃ i, i < m ∧ f i = c) ∨ ∃ j, j < n ∧ g j = c
theorem Tbl.start (A : Nat → Nat → Int) (m n : Nat) : Tbl A m n (fun i => n + i) (fun j => j) A 1 := by
  have e : ∀ p k, vcl A n (n + p) k = dlz p k := fun p k => by unfold vcl; rw [if_neg (by omega), Nat.add_sub_cancel_left]
  refine ⟨by decide, ?_, fun i j hi hj => ?_, fun i j _ _ h => by omega, fun i j _ _ h => h, fun i j _ _ => by omega, fun i h => by omega, fun j h => by omega, fun c hc => ?_⟩
  · unfold dcl
    rw [det_congr (B := dlz) fun p k _ _ => e p k]
    exact det_unit m
  · rw [dcl_st, det_congr (B := stR dlz i fun k => su m fun t => A t j * dlz t k) fun r c hr hc => ?_, det_comb dlz hi fun t => A t j, det_unit, Int.mul_one]
    unfold stR
    by_cases q : r = i
    · rw [if_pos q, if_pos q]
      show vcl A n j c = su m fun t => A t j * dlz t c
      rw [su_dlz hc]; unfold vcl; rw [if_pos hj]
    · rw [if_neg q, if_neg q]; exact e r c
  · by_cases q : c < n
    · exact .inr ⟨c, q, rfl⟩
    · exact .inl ⟨c - n, by omega, by omega⟩
end Go.Proofs.YtcceoildbnoliaaGreat

/- To14 -/
namespace Go.Proofs.YtcceoildbnoliaaGreat
set_option linter.unusedVariables false

end Go.Proofs.YtcceoildbnoliaaGreat

/- Lin17 -/
namespace Go.Proofs.YtcceoildbnoliaaGreat.Q17
set_option linter.unusedVariables false


def sm : Nat → (Nat → Rat) → Rat
  | 0, _ => 0
  | n + 1, f => sm n f + f n
theorem sm_congr : ∀ {n : Nat} {f g : Nat → Rat}, (∀ k, k < n → f k = g k) → sm n f = sm n g
  | 0, _, _, _ => rfl
  | n + 1, f, g, h => by
    simp only [sm]
    rw [sm_congr (n := n) (fun k hk => h k (by omega)), h n (by omega)]
theorem sm_zero : ∀ {n : Nat} {f : Nat → Rat}, (∀ k, k < n → f k = 0) → sm n f = 0
  | 0, _, _ => rfl
  | n + 1, f, h => by
    simp only [sm]
    rw [sm_zero (n := n) (fun k hk => h k (by omega)), h n (by omega)]
    grind
theorem sm_add : ∀ (n : Nat) (f g : Nat → Rat), sm n (fun k => f k + g k) = sm n f + sm n g
  | 0, _, _ => by simp only [sm]; grind
  | n + 1, f, g => by
    simp only [sm]
    rw [sm_add n f g]
    grind
theorem sm_mul : ∀ (n : Nat) (c : Rat) (f : Nat → Rat), sm n (fun k => c * f k) = c * sm n f
  | 0, _, _ => by simp only [sm]; grind
  | n + 1, c, f => by
    simp only [sm]
    rw [sm_mul n c f]
    grind
theorem sm_mulr (n : Nat) (c : Rat) (f : Nat → Rat) : sm n (fun k => f k * c) = sm n f * c := by
  rw [sm_congr (g := fun k => c * f k) (fun k _ => by grind), sm_mul]
  grind
theorem sm_swap : ∀ (n m : Nat) (f : Nat → Nat → Rat), sm n (fun i => sm m (fun j => f i j)) = sm m (fun j => sm n (fun i => f i j))
  | 0, m, f => by
    simp only [sm]
    rw [sm_zero (fun _ _ => rfl)]
  | n + 1, m, f => by
    simp only [sm]
    rw [sm_swap n m f, sm_add]
/-- One place alone counts. -/
theorem sm_one : ∀ {n i : Nat} {f : Nat → Rat}, i < n → (∀ k, k < n → k ≠ i → f k = 0) → sm n f = f i
  | 0, i, f, h, _ => by omega
  | n + 1, i, f, h, hz => by
    simp only [sm]
    by_cases e : i = n
    · subst e
      rw [sm_zero (fun k hk => hz k (by omega) (by omega))]
      grind
    · rw [sm_one (i := i) (by omega) (fun k hk hne => hz k (by omega) hne), hz n (by omega) (fun q => e q.symm)]
      grind
/-- The terms from r on are 0. -/
theorem sm_cut {r : Nat} {f : Nat → Rat} : ∀ {m : Nat}, r ≤ m → (∀ k, r ≤ k → k < m → f k = 0) → sm m f = sm r f
  | 0, h, _ => by
    obtain rfl : r = 0 := by omega
    rfl
  | m + 1, h, hz => by
    by_cases e : r = m + 1
    · subst e; rfl
    · simp only [sm]
      rw [sm_cut (m := m) (by omega) (fun k h1 h2 => hz k h1 (by omega)), hz m (by omega) (by omega)]
      grind

def dlt (i j : Nat) : Rat := if i = j then 1 else 0
/-- x (of length m) times M. -/
def vm (m : Nat) (x : Nat → Rat) (M : Nat → Nat → Rat) (j : Nat) : Rat := sm m (fun i => x i * M i j)
theorem vm_assoc (m k : Nat) (x : Nat → Rat) (A B : Nat → Nat → Rat) (j : Nat) : vm k (vm m x A) B j = vm m x (fun i => vm k (A i) B) j := by
  unfold vm
  rw [sm_congr (g := fun i => sm m (fun l => x l * A l i * B i j)) (fun i _ => (sm_mulr _ _ _).symm), sm_swap]
  refine sm_congr fun i _ => ?_
  rw [← sm_mul]
  exact sm_congr fun l _ => by grind
theorem vm_congr {m : Nat} {x y : Nat → Rat} {A B : Nat → Nat → Rat} {j : Nat} (hx : ∀ i, i < m → x i = y i) (hA : ∀ i, i < m → A i j = B i j) : vm m x A j = vm m y B j :=
  sm_congr fun i hi => by rw [hx i hi, hA i hi]
theorem vm_dlt {m i : Nat} (hi : i < m) (A : Nat → Nat → Rat) (j : Nat) : vm m (dlt i) A j = A i j := by
  unfold vm
  rw [sm_one hi (fun k _ hne => by unfold dlt; rw [if_neg (fun q => hne q.symm)]; grind)]
  unfold dlt
  rw [if_pos rfl]
  grind

/-- The rows of M (m of them) are combinations of the rows of A (l of them), in the first n columns. -/
def Comb (n m l : Nat) (M A : Nat → Nat → Rat) : Prop := ∃ U : Nat → Nat → Rat, ∀ i j, i < m → j < n → M i j = vm l (U i) A j
theorem Comb.refl (n m : Nat) (M : Nat → Nat → Rat) : Comb n m m M M := ⟨dlt, fun i j hi _ => (vm_dlt hi M j).symm⟩
theorem Comb.trans {n m l k : Nat} {M A B : Nat → Nat → Rat} (h1 : Comb n m l M A) (h2 : Comb n l k A B) : Comb n m k M B := by
  obtain ⟨U, hU⟩ := h1
  obtain ⟨V, hV⟩ := h2
  refine ⟨fun i => vm l (U i) V, fun i j hi hj => ?_⟩
  rw [hU i j hi hj, vm_assoc]
  exact vm_congr (fun _ _ => rfl) (fun k hk => hV k j hk hj)
/-- A matrix whose rows are each one row of A times a number plus another row of A times a number. -/
theorem Comb.two {n m : Nat} {M A : Nat → Nat → Rat} {f g : Nat → Nat} {a b : Nat → Rat} (hf : ∀ i, i < m → f i < m) (hg : ∀ i, i < m → g i < m) (h : ∀ i j, i < m → j < n → M i j = a i * A (f i) j + b i * A (g i) j) : Comb n m m M A := by
  refine ⟨fun i k => a i * dlt (f i) k + b i * dlt (g i) k, fun i j hi hj => ?_⟩
  rw [h i j hi hj]
  unfold vm
  rw [sm_congr (g := fun k => a i * (dlt (f i) k * A k j) + b i * (dlt (g i) k * A k j)) (fun k _ => by grind), sm_add, sm_mul, sm_mul]
  have e1 := vm_dlt (hf i hi) A j
  have e2 := vm_dlt (hg i hi) A j
  unfold vm at e1 e2
  rw [e1, e2]
def Eqv (n m : Nat) (M A : Nat → Nat → Rat) : Prop := Comb n m m M A ∧ Comb n m m A M
theorem Eqv.refl (n m : Nat) (M : Nat → Nat → Rat) : Eqv n m M M := ⟨Comb.refl _ _ _, Comb.refl _ _ _⟩
theorem Eqv.trans {n m : Nat} {M A B : Nat → Nat → Rat} (h1 : Eqv n m M A) (h2 : Eqv n m A B) : Eqv n m M B := ⟨h1.1.trans h2.1, h2.2.trans h1.2⟩
theorem Eqv.symm {n m : Nat} {M A : Nat → Nat → Rat} (h : Eqv n m M A) : Eqv n m A M := ⟨h.2, h.1⟩

/-- Reduced echelon form in the first c columns, with these pivots. -/
structure Rref (m c : Nat) (M : Nat → Nat → Rat) (pv : List Nat) : Prop where
  len : pv.length ≤ m
  inc : ∀ (s t a b : Nat), s < t → pv[s]? = some a → pv[t]? = some b → a < b
  lt : ∀ (t a : Nat), pv[t]? = some a → a < c
  one : ∀ (t a i : Nat), pv[t]? = some a → i < m → M i a = dlt i t
  low : ∀ (t a j : Nat), pv[t]? = some a → j < a → M t j = 0
  zer : ∀ (i j : Nat), pv.length ≤ i → i < m → j < c → M i j = 0
theorem Rref.start (m : Nat) (M : Nat → Nat → Rat) : Rref m 0 M [] :=
  ⟨by simp, fun s t a b _ h => by simp at h, fun t a h => by simp at h, fun t a i h => by simp at h, fun t a j h => by simp at h, fun i j _ _ h => by omega⟩
theorem Rref.congr {m c n : Nat} {M N : Nat → Nat → Rat} {pv : List Nat} (h : Rref m c M pv) (hc : c ≤ n) (e : ∀ i j, i < m → j < n → N i j = M i j) : Rref m c N pv := by
  refine ⟨h.len, h.inc, h.lt, fun t a i ht hi => ?_, fun t a j ht hj => ?_, fun i j h1 h2 h3 => ?_⟩
  · rw [e i a hi (by have := h.lt t a ht; omega)]; exact h.one t a i ht hi
  · have h1 : t < pv.length := (List.getElem?_eq_some_iff.1 ht).1
    have h2 := h.len
    rw [e t j (by omega) (by have := h.lt t a ht; omega)]; exact h.low t a j ht hj
  · rw [e i j h2 (by omega)]; exact h.zer i j h1 h2 h3
theorem Rref.skip {m c : Nat} {M : Nat → Nat → Rat} {pv : List Nat} (h : Rref m c M pv) (hz : ∀ i, pv.length ≤ i → i < m → M i c = 0) : Rref m (c + 1) M pv := by
  refine ⟨h.len, h.inc, fun t a q => Nat.lt_succ_of_lt (h.lt t a q), h.one, h.low, fun i j h1 h2 h3 => ?_⟩
  by_cases e : j = c
  · subst e; exact hz i h1 h2
  · exact h.zer i j h1 h2 (by omega)
/-- Two rows below the pivots' change places. -/
theorem Rref.swap {m c : Nat} {M N : Nat → Nat → Rat} {pv : List Nat} (h : Rref m c M pv) {a b : Nat} (ha : pv.length ≤ a) (hb : pv.length ≤ b) (ham : a < m) (hbm : b < m)
    (hN : ∀ i j, i < m → N i j = M (if i = a then b else if i = b then a else i) j) : Rref m c N pv := by
  have key : ∀ i, i < m → (if i = a then b else if i = b then a else i) < m := fun i hi => by split; · exact hbm
                                                                                              · split <;> omega
  have keep : ∀ i, i < pv.length → (if i = a then b else if i = b then a else i) = i := fun i hi => by rw [if_neg (by omega), if_neg (by omega)]
  have hl := h.len
  refine ⟨h.len, h.inc, h.lt, fun t q i ht hi => ?_, fun t q j ht hj => ?_, fun i j h1 h2 h3 => ?_⟩
  · have h1 : t < pv.length := (List.getElem?_eq_some_iff.1 ht).1
    rw [hN i q hi, h.one t q _ ht (key i hi)]
    unfold dlt
    by_cases e : i < pv.length
    · rw [keep i e]
    · have : (if i = a then b else if i = b then a else i) ≠ t := by split; · omega
                                                                     · split <;> omega
      rw [if_neg this, if_neg (by omega)]
  · have h1 : t < pv.length := (List.getElem?_eq_some_iff.1 ht).1
    rw [hN t j (by omega), keep t h1]
    exact h.low t q j ht hj
  · rw [hN i j h2]
    refine h.zer _ j ?_ (key i h2) h3
    split
    · omega
    · split <;> omega
/-- The pivot's row is divided by its entry and taken from all others. -/
theorem Rref.clear {m c : Nat} {M N : Nat → Nat → Rat} {pv : List Nat} (h : Rref m c M pv) (htop : pv.length < m) {y : Rat} (hy : M pv.length c * y = 1)
    (hN : ∀ i j, i < m → N i j = if i = pv.length then M i j * y else M i j - M i c * (M pv.length j * y)) : Rref m (c + 1) N (pv ++ [c]) := by
  have hz : ∀ j, j < c → M pv.length j = 0 := fun j hj => h.zer _ j (Nat.le_refl _) htop hj
  have same : ∀ i j, i < m → j < c → N i j = M i j := fun i j hi hj => by
    rw [hN i j hi]
    split
    · rename_i e; subst e; rw [hz j hj]; grind
    · rw [hz j hj]; grind
  have split_at : ∀ t a, (pv ++ [c])[t]? = some a → (pv[t]? = some a ∧ t < pv.length) ∨ (t = pv.length ∧ a = c) := fun t a ht => by
    by_cases q : t < pv.length
    · rw [List.getElem?_append_left q] at ht; exact .inl ⟨ht, q⟩
    · rw [List.getElem?_append_right (by omega)] at ht
      right
      by_cases q2 : t - pv.length = 0
      · rw [q2] at ht; simp at ht; exact ⟨by omega, ht.symm⟩
      · rw [show t - pv.length = (t - pv.length - 1) + 1 by omega] at ht; simp at ht
  refine ⟨by simp; omega, fun s t a b hst hs ht => ?_, fun t a ht => ?_, fun t a i ht hi => ?_, fun t a j ht hj => ?_, fun i j h1 h2 h3 => ?_⟩
  · rcases split_at s a hs with ⟨h1, q1⟩ | ⟨rfl, rfl⟩
    · rcases split_at t b ht with ⟨h2, q2⟩ | ⟨rfl, rfl⟩
      · exact h.inc s t a b hst h1 h2
      · exact h.lt s a h1
    · rcases split_at t b ht with ⟨h2, q2⟩ | ⟨rfl, rfl⟩ <;> omega
  · rcases split_at t a ht with ⟨h1, q1⟩ | ⟨rfl, rfl⟩
    · exact Nat.lt_succ_of_lt (h.lt t a h1)
    · omega
  · rcases split_at t a ht with ⟨h1, q1⟩ | ⟨rfl, rfl⟩
    · rw [same i a hi (h.lt t a h1)]; exact h.one t a i h1 hi
    · rw [hN i a hi]
      unfold dlt
      by_cases e : i = pv.length
      · subst e; rw [if_pos rfl, if_pos rfl]; exact hy
      · rw [if_neg e, if_neg e, hy]; grind
  · rcases split_at t a ht with ⟨h1, q1⟩ | ⟨rfl, rfl⟩
    · rw [same t j (by have := h.len; omega) (by have := h.lt t a h1; omega)]; exact h.low t a j h1 hj
    · rw [same _ j htop hj]; exact hz j hj
  · simp only [List.length_append, List.length_cons, List.length_nil] at h1
    by_cases e : j = c
    · subst e
      rw [hN i j h2, if_neg (by omega), hy]; grind
    · rw [same i j h2 (by omega)]; exact h.zer i j (by omega) h2 (by omega)
/-- A combination of the rows is told by what it has at the pivots. -/
theorem Rref.coords {m n : Nat} {M : Nat → Nat → Rat} {pv : List Nat} (h : Rref m n M pv) {v x : Nat → Rat} (hv : ∀ j, j < n → v j = vm m x M j) {j : Nat} (hj : j < n) :
    v j = vm pv.length (fun t => v (pv.getD t 0)) M j := by
  rw [hv j hj]
  unfold vm
  rw [sm_cut h.len (fun k h1 h2 => by rw [h.zer k j h1 h2 hj]; grind)]
  refine sm_congr fun t ht => ?_
  have e : pv[t]? = some (pv.getD t 0) := by simp [ht]
  have hl := h.len
  congr 1
  show x t = v (pv.getD t 0)
  rw [hv _ (h.lt t _ e)]
  unfold vm
  rw [sm_one (i := t) (by omega) (fun k hk hne => by rw [h.one t _ k e hk]; unfold dlt; rw [if_neg hne]; grind), h.one t _ t e (by omega)]
  unfold dlt
  rw [if_pos rfl]
  grind
end Go.Proofs.YtcceoildbnoliaaGreat.Q17

/- Dim17 -/
namespace Go.Proofs.YtcceoildbnoliaaGreat.Q17
set_option linter.unusedVariables false


/-- What is not 0 has an inverse; 1 is not 0. -/
def Fld : Prop := (∀ x : Rat, x ≠ 0 → ∃ y, x * y = 1) ∧ (1 : Rat) ≠ 0
theorem fld17 : Fld := ⟨fun x hx => ⟨x⁻¹, Rat.mul_inv_cancel x hx⟩, by decide⟩
/-- Past the place i. -/
def sk (i k : Nat) : Nat := if k < i then k else k + 1
theorem sm_skip {f : Nat → Rat} : ∀ {s i : Nat}, i ≤ s → sm (s + 1) f = sm s (fun k => f (sk i k)) + f i
  | 0, i, h => by
    obtain rfl : i = 0 := by omega
    simp only [sm]
  | s + 1, i, h => by
    by_cases e : i = s + 1
    · subst e
      show sm (s + 1) f + f (s + 1) = _
      rw [sm_congr (g := f) (f := fun k => f (sk (s + 1) k)) (fun k hk => by unfold sk; rw [if_pos hk])]
    · have ih := sm_skip (f := f) (s := s) (i := i) (by omega)
      show sm (s + 1) f + f (s + 1) = (sm s (fun k => f (sk i k)) + f (sk i s)) + f i
      rw [ih]
      have : sk i s = s + 1 := by unfold sk; rw [if_neg (by omega)]
      rw [this]
      grind
/-- More rows than columns: a combination that is not idle gives 0. -/
theorem idle (F : Fld) : ∀ {r s : Nat} (Z : Nat → Nat → Rat), r < s → ∃ x : Nat → Rat, (∃ i, i < s ∧ x i ≠ 0) ∧ ∀ j, j < r → vm s x Z j = 0
  | 0, s, Z, h => ⟨dlt 0, ⟨0, h, by unfold dlt; rw [if_pos rfl]; exact F.2⟩, fun j hj => by omega⟩
  | r + 1, s, Z, h => by
    by_cases hz : ∀ i, i < s → Z i r = 0
    · obtain ⟨x, hx, h0⟩ := idle F (r := r) (s := s) Z (by omega)
      refine ⟨x, hx, fun j hj => ?_⟩
      by_cases e : j = r
      · subst e
        exact sm_zero fun k hk => by rw [hz k hk]; grind
      · exact h0 j (by omega)
    · obtain ⟨i0, hi0, hne⟩ : ∃ i, i < s ∧ Z i r ≠ 0 := by
        apply Classical.byContradiction
        intro q
        exact hz fun i hi => Classical.byContradiction fun k => q ⟨i, hi, k⟩
      obtain ⟨y, hy⟩ := F.1 _ hne
      obtain ⟨s', rfl⟩ : ∃ s', s = s' + 1 := ⟨s - 1, by omega⟩
      obtain ⟨x, ⟨i1, hi1, hx1⟩, h0⟩ := idle F (r := r) (s := s') (fun i j => Z (sk i0 i) j - Z (sk i0 i) r * y * Z i0 j) (by omega)
      refine ⟨fun i => if i = i0 then -(sm s' (fun k => x k * Z (sk i0 k) r * y)) else x (if i < i0 then i else i - 1), ⟨sk i0 i1, ?_, ?_⟩, fun j hj => ?_⟩
      · unfold sk; split <;> omega
      · have n1 : sk i0 i1 ≠ i0 := by unfold sk; split <;> omega
        have n2 : (if sk i0 i1 < i0 then sk i0 i1 else sk i0 i1 - 1) = i1 := by unfold sk; split <;> (first | omega | (split <;> omega))
        simp only [n1, if_false, n2]
        exact hx1
      · unfold vm
        rw [sm_skip (i := i0) (by omega)]
        have e1 : sm s' (fun k => (if sk i0 k = i0 then -(sm s' (fun k => x k * Z (sk i0 k) r * y)) else x (if sk i0 k < i0 then sk i0 k else sk i0 k - 1)) * Z (sk i0 k) j) = sm s' (fun k => x k * Z (sk i0 k) j) := sm_congr fun k hk => by
          have n1 : sk i0 k ≠ i0 := by unfold sk; split <;> omega
          have n2 : (if sk i0 k < i0 then sk i0 k else sk i0 k - 1) = k := by unfold sk; split <;> (first | omega | (split <;> omega))
          simp only [n1, if_false, n2]
        rw [e1]
        simp only [if_true]
        by_cases e : j = r
        · subst e
          have e2 : sm s' (fun k => x k * Z (sk i0 k) j * y) = sm s' (fun k => x k * Z (sk i0 k) j) * y := sm_mulr _ _ _
          rw [e2]
          generalize sm s' (fun k => x k * Z (sk i0 k) j) = S
          have : Z i0 j * y = 1 := hy
          grind
        · have h1 := h0 j (by omega)
          unfold vm at h1
          rw [sm_congr (g := fun k => x k * Z (sk i0 k) j + (-(Z i0 j)) * (x k * Z (sk i0 k) r * y)) (fun k _ => by grind), sm_add, sm_mul] at h1
          grind
theorem dim_le (F : Fld) {r s : Nat} {Z Y : Nat → Nat → Rat} (h : ∀ i j, i < s → j < s → dlt i j = vm r (Z i) Y j) : s ≤ r := by
  apply Classical.byContradiction
  intro q
  obtain ⟨x, ⟨i, hi, hne⟩, h0⟩ := idle F (r := r) (s := s) Z (by omega)
  apply hne
  have e1 : vm s x (fun a b => dlt a b) i = x i := by
    unfold vm
    rw [sm_one hi (fun k hk hk2 => by show x k * dlt k i = 0; unfold dlt; rw [if_neg hk2]; grind)]
    show x i * dlt i i = x i
    unfold dlt
    rw [if_pos rfl]
    grind
  rw [← e1, vm_congr (y := x) (B := fun a => vm r (Z a) Y) (fun _ _ => rfl) (fun a ha => h a i ha hi), ← vm_assoc]
  exact sm_zero fun k hk => by rw [h0 k hk]; grind
theorem Rref.rank_le (F : Fld) {m n r : Nat} {M Y : Nat → Nat → Rat} {pv : List Nat} (h : Rref m n M pv) (hc : Comb n m r M Y) : pv.length ≤ r := by
  obtain ⟨Z, hZ⟩ := hc
  refine dim_le F (Z := Z) (Y := fun k t => Y k (pv.getD t 0)) fun i t hi ht => ?_
  have e : pv[t]? = some (pv.getD t 0) := by simp [ht]
  have hl := h.len
  have h1 := h.one t _ i e (by omega)
  have h2 := hZ i (pv.getD t 0) (by omega) (h.lt t _ e)
  rw [← h1, h2]
  rfl
/-- The ranks of a matrix and of its transpose. -/
theorem rank_turn_le (F : Fld) {m n : Nat} {A M N : Nat → Nat → Rat} {pv qv : List Nat} (h : Rref m n M pv) (hA : Comb n m m A M) (h' : Rref n m N qv) (hN : Comb m n n N (fun j i => A i j)) : qv.length ≤ pv.length := by
  refine h'.rank_le F (r := pv.length) (Y := fun t i => A i (pv.getD t 0)) (hN.trans ?_)
  obtain ⟨V, hV⟩ := hA
  refine ⟨fun j t => M t j, fun j i hj hi => ?_⟩
  have := h.coords (v := A i) (x := V i) (fun j hj => hV i j hi hj) hj
  show A i j = _
  rw [this]
  unfold vm
  exact sm_congr fun t _ => by grind
theorem sorted_eq : ∀ {l m : List Nat}, l.Pairwise (· < ·) → m.Pairwise (· < ·) → (∀ x, x ∈ l ↔ x ∈ m) → l = m
  | [], [], _, _, _ => rfl
  | [], b :: m, _, _, h => by have := (h b).2 (by simp); simp at this
  | a :: l, [], _, _, h => by have := (h a).1 (by simp); simp at this
  | a :: l, b :: m, hl, hm, h => by
    rw [List.pairwise_cons] at hl hm
    have e : a = b := by
      rcases List.mem_cons.1 ((h a).1 (by simp)) with q | q
      · exact q
      · rcases List.mem_cons.1 ((h b).2 (by simp)) with q2 | q2
        · exact q2.symm
        · have := hm.1 a q; have := hl.1 b q2; omega
    subst e
    congr 1
    refine sorted_eq hl.2 hm.2 fun x => ⟨fun hx => ?_, fun hx => ?_⟩
    · rcases List.mem_cons.1 ((h x).1 (by simp [hx])) with q | q
      · subst q; have := hl.1 x hx; omega
      · exact q
    · rcases List.mem_cons.1 ((h x).2 (by simp [hx])) with q | q
      · subst q; have := hm.1 x hx; omega
      · exact q
theorem Rref.sorted {m n : Nat} {M : Nat → Nat → Rat} {pv : List Nat} (h : Rref m n M pv) : pv.Pairwise (· < ·) := by
  rw [List.pairwise_iff_getElem]
  intro i j hi hj hij
  exact h.inc i j _ _ hij (List.getElem?_eq_getElem hi) (List.getElem?_eq_getElem hj)
theorem Rref.sub (F : Fld) {m n : Nat} {M N : Nat → Nat → Rat} {pv qv : List Nat} (h : Rref m n M pv) (h' : Rref m n N qv) (hc : Comb n m m M N) {a : Nat} (ha : a ∈ pv) : a ∈ qv := by
  obtain ⟨t, ht, e⟩ := List.mem_iff_getElem.1 ha
  have et : pv[t]? = some a := by rw [← e]; exact List.getElem?_eq_getElem ht
  obtain ⟨U, hU⟩ := hc
  have hl := h.len
  apply Classical.byContradiction
  intro hn
  have h1 := h'.coords (v := M t) (x := U t) (fun j hj => hU t j (by omega) hj) (h.lt t a et)
  rw [h.one t a t et (by omega)] at h1
  have h2 : vm qv.length (fun s => M t (qv.getD s 0)) N a = 0 := sm_zero fun s hs => by
    have es : qv[s]? = some (qv.getD s 0) := by simp [hs]
    show M t (qv.getD s 0) * N s a = 0
    rcases Nat.lt_trichotomy (qv.getD s 0) a with q | q | q
    · rw [h.low t a _ et q]; grind
    · exfalso; apply hn; rw [← q]; exact List.mem_of_getElem? es
    · rw [h'.low s _ a es q]; grind
  rw [h2] at h1
  unfold dlt at h1
  rw [if_pos rfl] at h1
  exact F.2 h1
/-- There is one reduced echelon form. -/
theorem Rref.unique (F : Fld) {m n : Nat} {M N : Nat → Nat → Rat} {pv qv : List Nat} (h : Rref m n M pv) (h' : Rref m n N qv) (he : Eqv n m M N) : pv = qv ∧ ∀ i j, i < m → j < n → M i j = N i j := by
  have e : pv = qv := sorted_eq h.sorted h'.sorted fun a => ⟨h.sub F h' he.1, h'.sub F h he.2⟩
  subst e
  refine ⟨rfl, fun i j hi hj => ?_⟩
  by_cases q : i < pv.length
  · obtain ⟨U, hU⟩ := he.1
    rw [h'.coords (v := M i) (x := U i) (fun j hj => hU i j hi hj) hj]
    unfold vm
    rw [sm_one q (fun k hk hne => ?_)]
    · show M i (pv.getD i 0) * N i j = N i j
      rw [h.one i _ i (show pv[i]? = some (pv.getD i 0) by simp [q]) hi]
      unfold dlt
      rw [if_pos rfl]
      grind
    · show M i (pv.getD k 0) * N k j = 0
      rw [h.one k _ i (show pv[k]? = some (pv.getD k 0) by simp [hk]) hi]
      unfold dlt
      rw [if_neg (fun q => hne q.symm)]
      grind
  · rw [h.zer i j (by omega) hi hj, h'.zer i j (by omega) hi hj]
end Go.Proofs.YtcceoildbnoliaaGreat.Q17
