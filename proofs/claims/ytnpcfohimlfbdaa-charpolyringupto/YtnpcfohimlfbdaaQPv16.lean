/-
  Pv16: polynomials as lists, in numbers: values, halves, division. Nothing of the program.
-/
import Derived.Test.YtnpcfohimlfbdaaQPz16
namespace Go.Proofs.Ytnpcfohimlfbdaa
set_option linter.unusedVariables false

def ev (N : Nat) (f : Nat → Int) (x : Int) : Int := su N fun i => f i * x ^ i
/-- The value at x. -/
def vlQ (P : List Int) (x : Int) : Int := ev P.length (cf P) x
theorem vl_more {P : List Int} {N : Nat} (h : P.length ≤ N) (x : Int) : ev N (cf P) x = vlQ P x := su_upto h fun k h1 _ => by rw [cf_ge h1, Int.zero_mul]
theorem ev_congr {N : Nat} {f g : Nat → Int} (h : ∀ t, f t = g t) (x : Int) : ev N f x = ev N g x := su_congr fun i _ => by rw [h]
theorem vl_tr (P : List Int) (x : Int) : vlQ (tr P) x = vlQ P x := by
  have h : (tr P).length ≤ P.length := by rw [tr_length]; exact sgl_le P
  rw [← vl_more h, ev_congr (cf_tr P)]; rfl
theorem vl_add (P Q : List Int) (x : Int) : vlQ (adQ P Q) x = vlQ P x + vlQ Q x := by
  have h : (adQ P Q).length ≤ max P.length Q.length := by unfold adQ; rw [tr_length]; have := sgl_le ((List.range (max P.length Q.length)).map fun s => cf P s + cf Q s); simpa using this
  rw [← vl_more h, ← vl_more (P := P) (N := max P.length Q.length) (by omega), ← vl_more (P := Q) (N := max P.length Q.length) (by omega), ev_congr (cf_adQ P Q)]
  unfold ev
  rw [← su_add]
  exact su_congr fun i _ => Int.add_mul _ _ _
theorem ev_cnv {f g : Nat → Int} {n m : Nat} (hf : ∀ t, n ≤ t → f t = 0) (hg : ∀ t, m ≤ t → g t = 0) (x : Int) : ev (n + m) (cnv f g) x = ev n f x * ev m g x := by
  have e1 : ev (n + m) (cnv f g) x = su (n + m) fun s => su (n + m) fun a => if a ≤ s then f a * g (s - a) * x ^ s else 0 := su_congr fun s hs => by
    show su (s + 1) (fun a => f a * g (s - a)) * x ^ s = _
    rw [← su_mulr, su_upto (n := s + 1) (m := n + m) (by omega) (fun k h1 h2 => if_neg (by omega))]
    exact su_congr fun a ha => by rw [if_pos (by omega)]
  rw [e1, su_swap]
  have e2 : ∀ a, a < n + m → (su (n + m) fun s => if a ≤ s then f a * g (s - a) * x ^ s else 0) = f a * x ^ a * ev m g x := fun a ha => by
    by_cases q : a < n
    · obtain ⟨d, hd⟩ : ∃ d, n + m = a + d := ⟨n + m - a, by omega⟩
      rw [hd, su_shift a (fun s => f a * g (s - a) * x ^ s)]
      have e3 : ev m g x = ev d g x := (su_upto (n := m) (m := d) (by omega) fun k h1 _ => by rw [hg k h1, Int.zero_mul]).symm
      rw [e3]
      unfold ev
      rw [← su_mul]
      refine su_congr fun b hb => ?_
      rw [show a + b - a = b by omega, Int.pow_add]
      grind
    · rw [hf a (by omega), Int.zero_mul, Int.zero_mul]
      exact su_zero fun s _ => by simp
  rw [su_congr e2, su_upto (n := n) (m := n + m) (by omega) (fun k h1 _ => by rw [hf k h1, Int.zero_mul, Int.zero_mul])]
  unfold ev
  rw [su_mulr]
theorem vl_mul (P Q : List Int) (x : Int) : vlQ (mulQ P Q) x = vlQ P x * vlQ Q x := by
  have h : (mulQ P Q).length ≤ P.length + Q.length := by
    unfold mulQ
    split
    · simp
    · rw [mulP_length, tr_length, tr_length]; have := sgl_le P; have := sgl_le Q; omega
  rw [← vl_more h, ev_congr (cf_mulQ P Q), ev_cnv (fun t ht => cf_ge ht) (fun t ht => cf_ge ht)]
  rfl
theorem vl_cons (c : Int) (P : List Int) (x : Int) : vlQ (c :: P) x = c + x * vlQ P x := by
  unfold vlQ ev
  rw [List.length_cons, su_head16, ← su_mul]
  have e : cf (c :: P) 0 = c := rfl
  rw [e]
  congr 1
  · simp
  · refine su_congr fun i _ => ?_
    have e2 : cf (c :: P) (i + 1) = cf P i := rfl
    rw [e2, Int.pow_succ]
    grind
theorem vl_nil (x : Int) : vlQ [] x = 0 := rfl
theorem su_pairs (f : Nat → Int) : ∀ m, su (2 * m) f = su m fun i => f (2 * i) + f (2 * i + 1)
  | 0 => rfl
  | m + 1 => by
    show su (2 * m) f + f (2 * m) + f (2 * m + 1) = su m _ + (f (2 * m) + f (2 * m + 1))
    rw [su_pairs f m]
    omega
/-- Neighbours joined. -/
def prQ (P : List Int) (x : Int) : List Int := (List.range ((P.length + 1) / 2)).map fun i => cf P (2 * i + 1) * x + cf P (2 * i)
theorem prQ_length (P : List Int) (x : Int) : (prQ P x).length = (P.length + 1) / 2 := by simp [prQ]
theorem vl_pr (P : List Int) (x : Int) : vlQ (prQ P x) (x * x) = vlQ P x := by
  have e : vlQ (prQ P x) (x * x) = su ((P.length + 1) / 2) fun i => (cf P (2 * i + 1) * x + cf P (2 * i)) * (x * x) ^ i := by
    unfold vlQ ev
    rw [prQ_length]
    refine su_congr fun i hi => ?_
    have : cf (prQ P x) i = cf P (2 * i + 1) * x + cf P (2 * i) := by simp [cf, prQ, hi]
    rw [this]
  rw [e, ← vl_more (P := P) (N := 2 * ((P.length + 1) / 2)) (by omega)]
  unfold ev
  rw [su_pairs]
  refine su_congr fun i _ => ?_
  have e2 : (x * x) ^ i = x ^ (2 * i) := by rw [Int.pow_mul, show x ^ 2 = x * x by rw [show (2 : Nat) = 1 + 1 from rfl, Int.pow_succ, Int.pow_succ, Int.pow_zero, Int.one_mul]]
  rw [e2, Int.pow_succ]
  grind
/-- What is left to do of a division: the coefficients from i on are found. -/
def DvS (P Q : List Int) (n m i : Nat) (U V : List Int) : Prop :=
  ∀ s, cf P s = (su m fun t => if i ≤ t ∧ t ≤ s then cf U t * cf Q (s - t) else 0) + if s < i + n then cf V s else 0
theorem DvS.start {P Q : List Int} {n m : Nat} {U : List Int} (hP : P.length ≤ m + n) : DvS P Q n m m U P := fun s => by
  rw [su_zero fun t ht => if_neg (by omega), Int.zero_add]
  by_cases h : s < m + n
  · rw [if_pos h]
  · rw [if_neg h, cf_ge (by omega)]
/-- One step: the next coefficient is taken, and its multiple off the rest. -/
theorem DvS.step {P Q U V U' V' : List Int} {n m i : Nat} (h : DvS P Q n m (i + 1) U V) (hi : i < m) (hQ : Q.length = n + 1) (h1 : cf Q n = 1)
    (hU : ∀ t, i + 1 ≤ t → cf U' t = cf U t) (hUi : cf U' i = cf V (i + n)) (hV : ∀ s, s < i + n → cf V' s = cf V s - if i ≤ s then cf U' i * cf Q (s - i) else 0) : DvS P Q n m i U' V' := fun s => by
  rw [h s]
  have e : (su m fun t => if i ≤ t ∧ t ≤ s then cf U' t * cf Q (s - t) else 0) = (su m fun t => if i + 1 ≤ t ∧ t ≤ s then cf U t * cf Q (s - t) else 0) + if i ≤ s then cf U' i * cf Q (s - i) else 0 := by
    have e1 : (if i ≤ s then cf U' i * cf Q (s - i) else 0) = su m fun t => if t = i then (if i ≤ s then cf U' i * cf Q (s - i) else 0) else 0 := by
      rw [su_one (i := i) hi (fun k hk hne => if_neg hne), if_pos rfl]
    rw [e1, ← su_add]
    refine su_congr fun t ht => ?_
    by_cases q : t = i
    · subst q
      rw [if_pos rfl, if_neg (show ¬ (t + 1 ≤ t ∧ t ≤ s) by omega), Int.zero_add]
      by_cases q2 : t ≤ s
      · rw [if_pos ⟨Nat.le_refl _, q2⟩, if_pos q2]
      · rw [if_neg (by omega), if_neg q2]
    · rw [if_neg q, Int.add_zero]
      by_cases q2 : i + 1 ≤ t ∧ t ≤ s
      · rw [if_pos q2, if_pos ⟨by omega, q2.2⟩, hU t q2.1]
      · rw [if_neg q2, if_neg (by omega)]
  rw [e]
  by_cases q : s < i + n
  · rw [if_pos q, if_pos (by omega), hV s q]
    omega
  · rw [if_neg q]
    by_cases q2 : s = i + n
    · subst q2
      rw [if_pos (by omega), if_pos (by omega), show i + n - i = n by omega, h1, hUi]
      omega
    · rw [if_neg (by omega)]
      by_cases q3 : i ≤ s
      · rw [if_pos q3, cf_ge (P := Q) (by omega), Int.mul_zero]; omega
      · rw [if_neg q3]; omega
theorem DvS.done {P Q U V : List Int} {n m : Nat} (h : DvS P Q n m 0 U V) (hU : U.length ≤ m) (s : Nat) : cf P s = cnv (cf U) (cf Q) s + if s < n then cf V s else 0 := by
  rw [h s, Nat.zero_add]
  congr 1
  unfold cnv
  have e1 : (su m fun t => if 0 ≤ t ∧ t ≤ s then cf U t * cf Q (s - t) else 0) = su (max m (s + 1)) fun t => if t ≤ s then cf U t * cf Q (s - t) else 0 := by
    rw [su_upto (n := m) (m := max m (s + 1)) (by omega) (fun k h1 h2 => by
      by_cases q : k ≤ s
      · rw [if_pos q, cf_ge (P := U) (by omega), Int.zero_mul]
      · rw [if_neg q])]
    refine su_congr fun t _ => ?_
    by_cases q : t ≤ s
    · rw [if_pos ⟨Nat.zero_le _, q⟩, if_pos q]
    · rw [if_neg (by omega), if_neg q]
  rw [e1, su_upto (n := s + 1) (m := max m (s + 1)) (by omega) (fun k h1 h2 => if_neg (by omega))]
  exact su_congr fun t ht => if_pos (by omega)
/-- Quotient and rest. -/
def Dvd (P Q U R : List Int) : Prop := (∀ s, cf P s = cnv (cf U) (cf Q) s + cf R s) ∧ Trm U ∧ Trm R ∧ R.length < Q.length
theorem Dvd.back {P Q U R : List Int} (h : Dvd P Q U R) : adQ (mulQ Q U) R = tr P := trm_ext (trm_adQ _ _) (trm_tr _) fun s => by
  rw [cf_adQ, cf_mulQ, cf_tr, h.1 s, cnv_comm]
/-- The rest by x - X is the value at X. -/
theorem Dvd.value {P U R : List Int} {X : Int} (h : Dvd P [-X, 1] U R) : vlQ P X = vlQ R X := by
  have h0 : P = P := rfl
  have e : tr P = adQ (mulQ [-X, 1] U) R := h.back.symm
  rw [← vl_tr P, e, vl_add, vl_mul]
  have : vlQ [-X, 1] X = 0 := by rw [vl_cons, vl_cons, vl_nil]; grind
  rw [this, Int.zero_mul, Int.zero_add]
end Go.Proofs.Ytnpcfohimlfbdaa
