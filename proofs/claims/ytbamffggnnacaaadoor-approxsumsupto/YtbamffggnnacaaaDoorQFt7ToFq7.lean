/-
  QFt7ToFq7: Ft7, Fq7, joined.
-/
import Derived.Test.YtbamffggnnacaaaDoorQFn7
import Derived.Test.YtbamffggnnacaaaDoorQFo7

/- Ft7 -/
namespace Go.Proofs.YtbamffggnnacaaaDoor
set_option linter.unusedVariables false

theorem log2_shl {m : Nat} (h : m ≠ 0) (k : Nat) : (m <<< k).log2 = m.log2 + k := by
  have h1 := bl_shift h k
  unfold bitLen at h1
  have h2 : m * 2 ^ k ≠ 0 := Nat.mul_ne_zero h (by have := Nat.two_pow_pos k; omega)
  rw [if_neg h2, if_neg h] at h1
  rw [Nat.shiftLeft_eq]; omega
/-- The model's cut is the rounding. -/
theorem cut_even (neg : Bool) {m : Nat} (h : m ≠ 0) (p : Int) : Ieee.Toward.even.cut neg (m <<< (-p).toNat) p.toNat = rnd m p := by
  unfold Ieee.Toward.cut
  rw [log2_shl h]
  simp only [Nat.shiftLeft_eq, Nat.one_mul]
  by_cases hp : p ≤ 0
  · unfold rnd
    rw [if_pos hp, show p.toNat = 0 by omega, Nat.zero_min, Nat.pow_zero, Nat.div_one, Nat.mod_one]
    simp
  · unfold rnd
    rw [if_neg hp, show (-p).toNat = 0 by omega, Nat.pow_zero, Nat.mul_one, Nat.add_zero]
    by_cases hd : p.toNat ≤ m.log2 + 2
    · rw [Nat.min_eq_left hd]
      congr 1
      by_cases c1 : 2 ^ p.toNat < 2 * (m % 2 ^ p.toNat) ∨ (2 ^ p.toNat = 2 * (m % 2 ^ p.toNat) ∧ m / 2 ^ p.toNat % 2 = 1)
      · rw [if_pos c1]
        rcases c1 with q | q
        · rw [decide_eq_true q]; rfl
        · rw [← q.1, q.2]; simp
      · rw [if_neg c1]
        have n1 : ¬ 2 ^ p.toNat < 2 * (m % 2 ^ p.toNat) := fun q => c1 (.inl q)
        rw [decide_eq_false n1]
        by_cases e : 2 ^ p.toNat = 2 * (m % 2 ^ p.toNat)
        · have n2 : m / 2 ^ p.toNat % 2 = 0 := by have := fun q => c1 (.inr ⟨e, q⟩); omega
          rw [n2]; simp
        · rw [beq_false_of_ne e]; rfl
    · rw [Nat.min_eq_right (by omega)]
      have hlt : m < 2 ^ (m.log2 + 1) := Nat.lt_log2_self
      have e2 : 2 ^ (m.log2 + 2) = 2 * 2 ^ (m.log2 + 1) := by rw [Nat.pow_succ, Nat.mul_comm]
      have hle : 2 ^ (m.log2 + 2) ≤ 2 ^ p.toNat := Nat.pow_le_pow_right (by omega) (by omega)
      have d1 : m / 2 ^ (m.log2 + 2) = 0 := Nat.div_eq_of_lt (by omega)
      have d2 : m / 2 ^ p.toNat = 0 := Nat.div_eq_of_lt (by omega)
      have d3 : m % 2 ^ (m.log2 + 2) = m := Nat.mod_eq_of_lt (by omega)
      have d4 : m % 2 ^ p.toNat = m := Nat.mod_eq_of_lt (by omega)
      rw [d1, d2, d3, d4]
      rw [if_neg (by omega), decide_eq_false (by omega), beq_false_of_ne (by omega)]
      rfl
/-- The model's nearest. -/
theorem nearest_eq (neg : Bool) (m : Nat) (n : Int) : Ieee.double.nearest neg m n = (if neg = true then 2 ^ 63 else 0) + nbits m n := by
  have hw : ∀ r, Ieee.double.word neg r = (if neg = true then 2 ^ 63 else 0) + r := by
    intro r
    unfold Ieee.Format.word
    cases neg
    · simp
    · rfl
  unfold Ieee.Format.nearest
  by_cases h : m = 0
  · rw [if_pos h, h, nbits_zero, hw]
  rw [if_neg h, hw]
  congr 1
  have hb : (bitLen m : Int) = (m.log2 : Int) + 1 := by unfold bitLen; rw [if_neg h]; rfl
  have hu : max (n + (m.log2 : Int) - 52) (-1074) = unitOf m n := by unfold unitOf; rw [hb]; congr 1; omega
  show min ((max (n + (m.log2 : Int) - 52) (-1074) - -1074).toNat * 2 ^ 52 + Ieee.Toward.even.cut neg (m <<< (n - max (n + (m.log2 : Int) - 52) (-1074)).toNat) (max (n + (m.log2 : Int) - 52) (-1074) - n).toNat) (2047 * 2 ^ 52) = _
  rw [hu, show n - unitOf m n = -(unitOf m n - n) by omega, cut_even neg h, show unitOf m n - -1074 = unitOf m n + 1074 by omega]
  by_cases hbig : 1024 < (bitLen m : Int) + n
  · have hn : nbits m n = 2047 * 2 ^ 52 := by unfold nbits; rw [if_neg h, if_pos hbig]
    rw [hn]
    have hu2 : unitOf m n = (bitLen m : Int) + n - 53 := by unfold unitOf; omega
    obtain ⟨k1, k2⟩ := kept h rfl (show (bitLen m : Int) - 53 ≤ unitOf m n - n by omega)
    have hr : 2 ^ 52 ≤ rnd m (unitOf m n - n) := by
      unfold rnd
      by_cases hp : unitOf m n - n ≤ 0
      · rw [if_pos hp]; exact (k1 hp).2 (by omega)
      · rw [if_neg hp]; exact Nat.le_trans ((k2 (by omega)).2 (by omega)) (Nat.le_add_right _ _)
    exact Nat.min_eq_right (by omega)
  · have hn : nbits m n = (unitOf m n + 1074).toNat * 2 ^ 52 + rnd m (unitOf m n - n) := by unfold nbits; rw [if_neg h, if_neg hbig]
    rw [← hn]
    exact Nat.min_eq_left (nbits_le m n)

/-- S * 2^n, without what is behind the point. -/
def mv (S : Nat) (n : Int) : Nat := if n < 0 then S / 2 ^ (-n).toNat else S * 2 ^ n.toNat
theorem mv_shift (c e : Nat) (n : Int) : mv (c * 2 ^ e) n = mv c (e + n) := by
  unfold mv
  by_cases h1 : n < 0
  · rw [if_pos h1]
    by_cases h2 : (e : Int) + n < 0
    · rw [if_pos h2]
      have : (-n).toNat = (-((e : Int) + n)).toNat + e := by omega
      rw [this, Nat.pow_add, Nat.mul_div_mul_right _ _ (Nat.two_pow_pos _)]
    · rw [if_neg h2]
      have : e = ((e : Int) + n).toNat + (-n).toNat := by omega
      rw [this, Nat.pow_add, ← Nat.mul_assoc, Nat.mul_div_cancel _ (Nat.two_pow_pos _)]
      congr 2; omega
  · rw [if_neg h1, if_neg (by omega), Nat.mul_assoc, ← Nat.pow_add]
    congr 2; omega
theorem mv_zero (n : Int) : mv 0 n = 0 := by unfold mv; split <;> simp
theorem wv_mv (r : Nat) : wv r = mv (fv r) (-1074) := by
  unfold wv mv
  rw [if_pos (by omega), show (-(-1074 : Int)).toNat = E7 from rfl]
/-- Without what is behind the point it is a float64. -/
theorem trunc_fv {r : Nat} (h : r < 2047 * 2 ^ 52) : fv (nbits (wv r) 0) = wv r * 2 ^ E7 ∧ nbits (wv r) 0 < 2047 * 2 ^ 52 := by
  obtain ⟨e, c, h1, h2, h3, h4⟩ := rung_form r
  have hw : wv r = mv c (e - 1074) := by
    rw [wv_mv, h4, mv_shift]; congr 1
  by_cases he : e < 1074
  · refine near_small ?_
    rw [hw]; unfold mv
    rw [if_pos (by omega)]
    exact Nat.le_trans (Nat.div_le_self _ _) (Nat.le_of_lt h2)
  · have hv : fv r = wv r * 2 ^ E7 := by
      rw [hw, h4]; unfold mv
      rw [if_neg (by omega), Nat.mul_assoc, ← Nat.pow_add]
      congr 2; show e = _ + 1074; omega
    have hn : nbits (wv r) 0 = r := by
      have := nbits_shift (wv r) E7 0
      rw [← this, ← hv]; exact nbits_fv h
    rw [hn]; exact ⟨hv, h⟩
/-- The model's rounding toward zero. -/
theorem cut_zero (neg : Bool) (n d : Nat) : Ieee.Toward.zero.cut neg n d = n / 2 ^ d := by
  unfold Ieee.Toward.cut
  simp only [Nat.shiftLeft_eq, Nat.one_mul, Bool.toNat_false, Nat.add_zero]
  by_cases hd : d ≤ n.log2 + 2
  · rw [Nat.min_eq_left hd]
  · rw [Nat.min_eq_right (by omega)]
    have hlt : n < 2 ^ (n.log2 + 1) := Nat.lt_log2_self
    have h2 : 2 ^ (n.log2 + 1) ≤ 2 ^ (n.log2 + 2) := Nat.pow_le_pow_right (by omega) (by omega)
    have h3 : 2 ^ (n.log2 + 2) ≤ 2 ^ d := Nat.pow_le_pow_right (by omega) (by omega)
    rw [Nat.div_eq_of_lt (by omega), Nat.div_eq_of_lt (by omega)]
theorem integral_fin {b : Nat} (h : Fin7 b) : Ieee.double.write ((Ieee.double.read b).integral .zero) = (if ng b = true then 2 ^ 63 else 0) + nbits (wv (rg b)) 0 := by
  obtain ⟨m, i, e1, f1⟩ := read_fin h
  rw [e1]
  show Ieee.double.nearest (ng b) (Ieee.Toward.zero.cut (ng b) (m <<< ((i : Int) - 1074).toNat) (-((i : Int) - 1074)).toNat) 0 = _
  rw [nearest_eq, cut_zero]
  congr 2
  rw [wv_mv, ← f1, mv_shift, Nat.shiftLeft_eq]
  unfold mv
  by_cases hi : (i : Int) + -1074 < 0
  · rw [if_pos hi, show ((i : Int) - 1074).toNat = 0 by omega, Nat.pow_zero, Nat.mul_one]
    congr 2
  · rw [if_neg hi, show (-((i : Int) - 1074)).toNat = 0 by omega, Nat.pow_zero, Nat.div_one]
    congr 2
end Go.Proofs.YtbamffggnnacaaaDoor

/- Fq7 -/
namespace Go.Proofs.YtbamffggnnacaaaDoor
set_option linter.unusedVariables false

/-- A quotient as a number times a power of 2: not always exact, but with the same nearest. -/
def qplaces (a b : Nat) : Nat := (54 - ((bitLen a : Int) - (bitLen b : Int))).toNat
def qfar (a b : Nat) : Prop := 1024 < (bitLen a : Int) - (bitLen b : Int) ∨ (bitLen a : Int) - (bitLen b : Int) < -1075
instance (a b : Nat) : Decidable (qfar a b) := inferInstanceAs (Decidable (_ ∨ _))
def qsize (a b : Nat) : Nat :=
  if qfar a b then 1 else if a * 2 ^ qplaces a b % b = 0 then a * 2 ^ qplaces a b / b else a * 2 ^ qplaces a b / b * 2 + 1
def qplace (a b : Nat) : Int :=
  if qfar a b then (bitLen a : Int) - (bitLen b : Int) else if a * 2 ^ qplaces a b % b = 0 then -(qplaces a b : Int) else -(qplaces a b : Int) - 1
def qbits (a b : Nat) : Nat := nbits (qsize a b) (qplace a b)

theorem bl_one : bitLen 1 = 1 := by decide
theorem bl_two (k : Nat) : bitLen (2 ^ k) = k + 1 := bl_of (Nat.le_refl _) (Nat.pow_lt_pow_right (by omega) (by omega))
theorem nbits_far {S : Nat} {n : Int} (h : S ≠ 0) (hb : 1024 < (bitLen S : Int) + n) : nbits S n = 2047 * 2 ^ 52 := by
  unfold nbits; rw [if_neg h, if_pos hb]
theorem qbits_one (a : Nat) : qbits a 1 = nbits a 0 := by
  unfold qbits qsize qplace
  by_cases hf : qfar a 1
  · rw [if_pos hf, if_pos hf]
    unfold qfar at hf
    rw [bl_one] at hf ⊢
    have ha : a ≠ 0 := by rintro rfl; simp [bitLen] at hf
    rw [nbits_far (by omega) (by rw [bl_one]; omega), nbits_far ha (by omega)]
  · rw [if_neg hf, if_neg hf, Nat.mod_one, if_pos rfl, if_pos rfl, Nat.div_one]
    have := nbits_shift a (qplaces a 1) 0
    rw [Int.zero_sub] at this
    exact this
theorem qbits_two {m k : Nat} (hm : m ≠ 0) (hm2 : m < 2 ^ 53) (hk : k ≤ 1074) : qbits m (2 ^ k) = nbits m (-(k : Int)) := by
  obtain ⟨b1, b2, b3⟩ := bl_bounds hm
  have hl : bitLen m ≤ 53 := by
    have := (Nat.pow_lt_pow_iff_right (a := 2) (by omega)).1 (Nat.lt_of_le_of_lt b2 hm2)
    omega
  have hf : ¬ qfar m (2 ^ k) := by
    unfold qfar; rw [bl_two]; omega
  have hp : (qplaces m (2 ^ k) : Int) = 55 + k - bitLen m := by unfold qplaces; rw [bl_two]; omega
  unfold qbits qsize qplace
  rw [if_neg hf, if_neg hf]
  generalize qplaces m (2 ^ k) = p at *
  have e : m * 2 ^ p = m * 2 ^ (p - k) * 2 ^ k := by rw [Nat.mul_assoc, ← Nat.pow_add, show p - k + k = p by omega]
  rw [e, Nat.mul_mod_left, if_pos rfl, if_pos rfl, Nat.mul_div_cancel _ (Nat.two_pow_pos _)]
  have := nbits_shift m (p - k) (-(k : Int))
  rw [show -(k : Int) - ((p - k : Nat) : Int) = -(p : Int) by omega] at this
  exact this
/-- What Split takes apart. -/
theorem split_form {r : Nat} (h0 : r ≠ 0) (h : r < 2047 * 2 ^ 52) : ∃ e c t j : Nat, r = e * 2 ^ 52 + c ∧ c < 2 ^ 53 ∧ (e = 0 ∨ 2 ^ 52 ≤ c) ∧ c = 2 ^ t * (2 * j + 1) ∧ fv r = (2 * j + 1) * 2 ^ (t + e) ∧ t ≤ 52 ∧ e ≤ 2045 := by
  obtain ⟨e, c, h1, h2, h3, h4⟩ := rung_form r
  have hc : c ≠ 0 := by rintro rfl; rcases h3 with q | q <;> omega
  have : ∀ n c : Nat, c ≠ 0 → c < 2 ^ n → ∃ t j, c = 2 ^ t * (2 * j + 1) ∧ t < n := by
    intro n
    induction n with
    | zero => intro c q1 q2; simp at q2; omega
    | succ n ih =>
      intro c q1 q2
      rcases Nat.mod_two_eq_zero_or_one c with q | q
      · obtain ⟨t, j, u1, u2⟩ := ih (c / 2) (by omega) (by rw [Nat.pow_succ] at q2; omega)
        exact ⟨t + 1, j, by rw [Nat.pow_succ, Nat.mul_assoc, Nat.mul_comm 2, ← Nat.mul_assoc, ← u1]; omega, by omega⟩
      · exact ⟨0, c / 2, by simp; omega, by omega⟩
  obtain ⟨t, j, u1, u2⟩ := this 53 c hc h2
  refine ⟨e, c, t, j, h1, h2, h3, u1, ?_, by omega, by omega⟩
  rw [h4, u1, Nat.pow_add, Nat.mul_comm (2 ^ t), Nat.mul_assoc]
end Go.Proofs.YtbamffggnnacaaaDoor
