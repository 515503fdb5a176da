/-
  QFz7ToFb7: Fz7, Fb7, joined.
-/
import Derived.Test.YtbamffggnnacaaaDoorQWc7
import Derived.Test.YtbamffggnnacaaaDoorQWs7

/- Fz7 -/
namespace Go.Proofs.YtbamffggnnacaaaDoor
open Go.RowKit
set_option linter.unusedVariables false

theorem nbits_ne {N : Nat} (h : N ≠ 0) : nbits N 0 ≠ 0 := by
  by_cases h1 : N ≤ 2 ^ 53
  · obtain ⟨a, b⟩ := near_small h1
    intro e
    rw [e, fv_zero] at a
    have := Nat.mul_ne_zero h (show 2 ^ E7 ≠ 0 by have := Nat.two_pow_pos E7; omega)
    omega
  · by_cases h2 : N < lim7
    · have := (near_prev (by omega) h2).1; omega
    · rw [near_inf (by omega)]; omega
/-- A size with the sign of A. -/
def sgd (A : Int) (x : Nat) : Int := if A < 0 then -(x : Int) else (x : Int)
theorem sgd_gap (A : Int) (x : Nat) : (A - sgd A x).natAbs = gap A.natAbs x := by
  unfold sgd gap
  split <;> omega
theorem zw_eq {A : Int} (h : A ≠ 0) : zw A 0 = (if A < 0 then 2 ^ 63 else 0) + nbits A.natAbs 0 := by
  have hn := nbits_ne (show A.natAbs ≠ 0 by omega)
  unfold zw fw
  by_cases q : A < 0
  · rw [if_pos ⟨by simpa using q, hn⟩, if_pos q]
  · rw [if_neg (by simp [q]), if_neg q, Nat.zero_add]
theorem swv_zero : swv 0 = 0 := by
  unfold swv wv
  rw [show rg 0 = 0 from rfl, fv_zero, Nat.zero_div]
  rfl
theorem zw_zero : zw 0 0 = 0 := by decide
/-- A word of the same sign. -/
theorem sg_word {A : Int} {r : Nat} (h : r < 2 ^ 63) : rg ((if A < 0 then 2 ^ 63 else 0) + r) = r ∧ swv ((if A < 0 then 2 ^ 63 else 0) + r) = sgd A (wv r) ∧ sv ((if A < 0 then 2 ^ 63 else 0) + r) = sgd A (fv r) := by
  unfold swv sv sgd
  by_cases q : A < 0
  · rw [if_pos q, (rg_neg h).1, (rg_neg h).2]
    simp [q]
  · rw [if_neg q, Nat.zero_add, (rg_pos h).1, (rg_pos h).2]
    simp [q]
theorem zw_lt (A : Int) : zw A 0 < 2 ^ 64 := by
  have := nbits_le A.natAbs 0
  unfold zw fw
  split <;> omega
theorem near_f_inf {A : Int} (h : lim7 ≤ A.natAbs) : infAs (zw A 0) (cmpI A 0) = true := by
  have hp : 0 < lim7 := Nat.lt_of_lt_of_le (Nat.two_pow_pos _) lim_low
  have h0 : A ≠ 0 := by rintro rfl; simp at h; omega
  rw [zw_eq h0, near_inf h]
  unfold infAs
  by_cases q : A < 0
  · rw [if_pos q, (rg_neg (by omega)).1, (rg_neg (by omega)).2, cmpI_lt q]; decide
  · rw [if_neg q, Nat.zero_add, (rg_pos (by omega)).1, (rg_pos (by omega)).2, cmpI_gt (by omega)]; decide
theorem near_f_fin {A : Int} (h : A.natAbs < lim7) : Fin7 (zw A 0) ∧ ((zw A 0 : Int) == 9223372036854775808) = false ∧ acv (swv (zw A 0)) (zw A 0) = 0 := by
  by_cases h0 : A = 0
  · subst h0
    rw [zw_zero]
    refine ⟨by decide, by decide, ?_⟩
    unfold acv
    rw [swv_zero, sv_zero, Int.zero_mul]; rfl
  · obtain ⟨f1, f2⟩ := near_fin h
    have hn := nbits_ne (show A.natAbs ≠ 0 by omega)
    rw [zw_eq h0]
    obtain ⟨s1, s2, s3⟩ := sg_word (A := A) (r := nbits A.natAbs 0) (by omega)
    refine ⟨?_, ?_, ?_⟩
    · unfold Fin7; rw [s1]; exact f1
    · rw [beq_eq_false_iff_ne]
      split <;> omega
    · unfold acv
      rw [s2, s3, f2]
      unfold sgd
      by_cases q : A < 0
      · rw [if_pos q, if_pos q, Int.natCast_mul, Int.neg_mul]; exact cmpI_self _
      · rw [if_neg q, if_neg q, Int.natCast_mul]; exact cmpI_self _
theorem near_f_small {A : Int} (h : A.natAbs ≤ 2 ^ 53) : A - swv (zw A 0) = 0 := by
  by_cases h0 : A = 0
  · subst h0; rw [zw_zero, swv_zero]; rfl
  · obtain ⟨f1, f2⟩ := near_small h
    have hw : wv (nbits A.natAbs 0) = A.natAbs := by unfold wv; rw [f1, Nat.mul_div_cancel _ (Nat.two_pow_pos _)]
    rw [zw_eq h0, (sg_word (A := A) (r := nbits A.natAbs 0) (by omega)).2.1, hw]
    unfold sgd
    split <;> omega
/-- No neighbour is nearer. -/
structure Nb (A : Int) (X : Nat) : Prop where
  lt : X < 2 ^ 64
  le : cmpI (((A - swv (zw A 0)).natAbs : Nat) : Int) (((A - swv X).natAbs : Nat) : Int) ≤ 0
  ev : cmpI (((A - swv (zw A 0)).natAbs : Nat) : Int) (((A - swv X).natAbs : Nat) : Int) = 0 → zw A 0 % 2 = 0
theorem cmpI_le {a b : Int} (h : a ≤ b) : cmpI a b ≤ 0 := by unfold cmpI; split <;> (try split) <;> omega
theorem near_f_next {A : Int} (h53 : 2 ^ 53 < A.natAbs) (h : A.natAbs < lim7) : Nb A (zw A 0 + 1) := by
  have h0 : A ≠ 0 := by rintro rfl; simp at h53
  have hl := (near_fin h).1
  obtain ⟨g1, g2⟩ := near_next h53 h
  have e1 := zw_eq h0
  obtain ⟨-, s2, -⟩ := sg_word (A := A) (r := nbits A.natAbs 0) (by omega)
  obtain ⟨-, t2, -⟩ := sg_word (A := A) (r := nbits A.natAbs 0 + 1) (by omega)
  rw [← Nat.add_assoc] at t2
  rw [← e1] at s2 t2
  have hm : zw A 0 % 2 = nbits A.natAbs 0 % 2 := by rw [e1]; split <;> omega
  refine ⟨by rw [e1]; split <;> omega, ?_, ?_⟩
  · rw [s2, t2, sgd_gap, sgd_gap]
    exact cmpI_le (by omega)
  · rw [s2, t2, sgd_gap, sgd_gap, hm]
    intro e
    exact g2 (by have := cmpI_none e; omega)
theorem near_f_prev {A : Int} (h53 : 2 ^ 53 < A.natAbs) (h : A.natAbs < lim7) : 1 ≤ zw A 0 ∧ Fin7 (zw A 0 - 1) ∧ Nb A (zw A 0 - 1) := by
  have h0 : A ≠ 0 := by rintro rfl; simp at h53
  have hl := (near_fin h).1
  obtain ⟨g0, g1, g2⟩ := near_prev h53 h
  have e1 := zw_eq h0
  obtain ⟨-, s2, -⟩ := sg_word (A := A) (r := nbits A.natAbs 0) (by omega)
  obtain ⟨t1, t2, -⟩ := sg_word (A := A) (r := nbits A.natAbs 0 - 1) (by omega)
  rw [← Nat.add_sub_assoc (by omega)] at t1 t2
  rw [← e1] at s2 t1 t2
  have hm : zw A 0 % 2 = nbits A.natAbs 0 % 2 := by rw [e1]; split <;> omega
  refine ⟨by rw [e1]; omega, by unfold Fin7; rw [t1]; omega, by rw [e1]; split <;> omega, ?_, ?_⟩
  · rw [s2, t2, sgd_gap, sgd_gap]
    exact cmpI_le (by omega)
  · rw [s2, t2, sgd_gap, sgd_gap, hm]
    intro e
    exact g2 (by have := cmpI_none e; omega)
end Go.Proofs.YtbamffggnnacaaaDoor

/- Fb7 -/
namespace Go.Proofs.YtbamffggnnacaaaDoor
open Go.RowKit
set_option linter.unusedVariables false

/-- A size with a sign. -/
def sgb (N : Bool) (m : Nat) : Int := if N = true then -(m : Int) else (m : Int)
theorem spl_facts {b m : Nat} {n : Int} (h : Spl b n m) : -1074 ≤ n ∧ n ≤ 1023 ∧ 0 < m ∧ m < 2 ^ 53 ∧ m % 2 = 1 := by
  obtain ⟨e, c, t, j, h1, h2, h3, h4, h5, h6, h7, h8, h9⟩ := h.ex
  refine ⟨by omega, by omega, by omega, ?_, by omega⟩
  have := Nat.two_pow_pos t
  have : 2 * j + 1 ≤ 2 ^ t * (2 * j + 1) := Nat.le_mul_of_pos_left _ this
  omega
theorem spl_fv {b m : Nat} {n : Int} (h : Spl b n m) : ∃ s : Nat, fv (rg b) = m * 2 ^ s ∧ (s : Int) = n + 1074 := by
  obtain ⟨e, c, t, j, h1, h2, h3, h4, h5, h6, h7, h8, h9⟩ := h.ex
  exact ⟨t + e, h9, by omega⟩
theorem spl_nbits {b m : Nat} {n : Int} (h : Spl b n m) (hf : Fin7 b) : nbits m n = rg b := by
  obtain ⟨s, h1, h2⟩ := spl_fv h
  have e := nbits_fv (r := rg b) hf
  rw [h1] at e
  have := nbits_shift m s n
  rw [show n - (s : Int) = -1074 by omega] at this
  rw [← this, e]
theorem fw_back {b : Nat} (hb : b < 2 ^ 64) (h0 : rg b ≠ 0) : fw (ng b) (rg b) = b := by
  have := word_parts hb
  unfold fw
  cases hn : ng b
  · rw [hn] at this; simp at this ⊢; omega
  · rw [hn] at this
    rw [if_pos ⟨rfl, h0⟩]
    simp at this
    omega
theorem sgb_abs (N : Bool) (m : Nat) : (sgb N m).natAbs = m := by unfold sgb; split <;> omega
theorem sgb_neg {N : Bool} {m : Nat} (h : 0 < m) : decide (sgb N m < 0) = N := by
  unfold sgb
  cases N
  · simp
  · simp; omega
theorem sgb_mul (N : Bool) (m k : Nat) : sgb N m * ((k : Nat) : Int) = sgb N (m * k) := by
  unfold sgb
  cases N
  · simp
  · simp [Int.neg_mul]
theorem sgb_tdiv (N : Bool) (m k : Nat) : (sgb N m).tdiv ((k : Nat) : Int) = sgb N (m / k) := by
  unfold sgb
  cases N
  · simp only [Bool.false_eq_true, if_false]; exact Int.ofNat_tdiv m k
  · simp only [if_true]; rw [Int.neg_tdiv, Int.ofNat_tdiv]
theorem swv_sgb (b : Nat) : swv b = sgb (ng b) (wv (rg b)) := rfl
theorem sv_sgb (b : Nat) : sv b = sgb (ng b) (fv (rg b)) := rfl
section
variable {b m k : Nat}
/-- Where it is whole. -/
theorem back_up_wv (h : Spl b (k : Int) m) : wv (rg b) = m * 2 ^ k ∧ fv (rg b) = m * 2 ^ k * 2 ^ E7 := by
  obtain ⟨s, h1, h2⟩ := spl_fv h
  have e : s = k + E7 := by show s = k + 1074; omega
  rw [e, Nat.pow_add, ← Nat.mul_assoc] at h1
  refine ⟨?_, h1⟩
  unfold wv
  rw [h1, Nat.mul_div_cancel _ (Nat.two_pow_pos _)]
theorem back_up_ratio (h : Spl b (k : Int) m) (hb : b < 2 ^ 64) (hf : Fin7 b) (h0 : rg b ≠ 0) : rw7 (sgb (ng b) m * ((2 ^ k : Nat) : Int)) ((2 ^ 0 : Nat) : Int) = b := by
  have hm := (spl_facts h).2.2.1
  have hp : 0 < m * 2 ^ k := Nat.mul_pos hm (Nat.two_pow_pos _)
  rw [sgb_mul]
  unfold rw7
  rw [sgb_neg hp, sgb_abs, show ((2 ^ 0 : Nat) : Int) = 1 from rfl, show (1 : Int).natAbs = 1 from rfl, qbits_one]
  have := nbits_shift m k (k : Int)
  rw [Int.sub_self] at this
  rw [this, spl_nbits h hf, show (ng b != decide ((1 : Int) < 0)) = ng b by cases ng b <;> rfl]
  exact fw_back hb h0
theorem back_up_tdiv (h : Spl b (k : Int) m) : (sgb (ng b) m * ((2 ^ k : Nat) : Int)).tdiv ((2 ^ 0 : Nat) : Int) = swv b := by
  rw [sgb_mul, sgb_tdiv, swv_sgb, (back_up_wv h).1, Nat.pow_zero, Nat.div_one]
theorem back_up_cmp (h : Spl b (k : Int) m) : acv (swv b) b = 0 := by
  unfold acv
  rw [swv_sgb, sv_sgb, sgb_mul, (back_up_wv h).1, (back_up_wv h).2]
  exact cmpI_self _
theorem back_up_near (h : Spl b (k : Int) m) (hb : b < 2 ^ 64) (hf : Fin7 b) (h0 : rg b ≠ 0) : zw (swv b) 0 = b := by
  have hm := (spl_facts h).2.2.1
  have hp : 0 < m * 2 ^ k := Nat.mul_pos hm (Nat.two_pow_pos _)
  unfold zw
  rw [swv_sgb, (back_up_wv h).1, sgb_neg hp, sgb_abs]
  have := nbits_shift m k (k : Int)
  rw [Int.sub_self] at this
  rw [this, spl_nbits h hf]
  exact fw_back hb h0
/-- Where it is not. -/
theorem back_dn_wv (h : Spl b (-(k : Int)) m) : wv (rg b) = m / 2 ^ k := by
  obtain ⟨s, h1, h2⟩ := spl_fv h
  rw [wv_mv, h1, mv_shift]
  by_cases hk : k = 0
  · subst hk
    unfold mv
    rw [if_neg (by omega), show ((s : Int) + -1074).toNat = 0 by omega, Nat.pow_zero, Nat.div_one, Nat.mul_one]
  · unfold mv
    rw [if_pos (by omega), show (-((s : Int) + -1074)).toNat = k by omega]
theorem back_dn_ratio (h : Spl b (-(k : Int)) m) (hb : b < 2 ^ 64) (hf : Fin7 b) (h0 : rg b ≠ 0) : rw7 (sgb (ng b) m) ((2 ^ k : Nat) : Int) = b := by
  obtain ⟨f1, f2, hm, hm2, f3⟩ := spl_facts h
  have hp : (0 : Nat) < 2 ^ k := Nat.two_pow_pos _
  unfold rw7
  rw [sgb_neg hm, sgb_abs, show ((2 ^ k : Nat) : Int).natAbs = 2 ^ k from Int.natAbs_natCast _, qbits_two (by omega) hm2 (by omega), spl_nbits h hf]
  rw [show decide (((2 ^ k : Nat) : Int) < 0) = false from decide_eq_false (by omega), show (ng b != false) = ng b by cases ng b <;> rfl]
  exact fw_back hb h0
theorem back_dn_tdiv (h : Spl b (-(k : Int)) m) : (sgb (ng b) m).tdiv ((2 ^ k : Nat) : Int) = swv b := by
  rw [sgb_tdiv, swv_sgb, back_dn_wv h]
theorem back_dn_cmp (h : Spl b (-(k : Int)) m) (hk : 0 < k) : acv (swv b) b = -(cmpI (sgb (ng b) m) 0) := by
  obtain ⟨s, h1, h2⟩ := spl_fv h
  obtain ⟨f1, f2, hm, hm2, f3⟩ := spl_facts h
  unfold acv
  rw [swv_sgb, sv_sgb, sgb_mul, back_dn_wv h, h1]
  have hlt : m / 2 ^ k * 2 ^ k < m := by
    obtain ⟨j, rfl⟩ : ∃ j, k = j + 1 := ⟨k - 1, by omega⟩
    have hd := Nat.div_add_mod m (2 ^ (j + 1))
    have hne : m % 2 ^ (j + 1) ≠ 0 := fun e => by
      have := Nat.dvd_of_mod_eq_zero e
      rw [Nat.pow_succ, Nat.mul_comm] at this
      have := Nat.dvd_trans (Nat.dvd_mul_right 2 (2 ^ j)) this
      omega
    rw [Nat.mul_comm] at hd
    omega
  have hE : 2 ^ E7 = 2 ^ k * 2 ^ s := by rw [← Nat.pow_add]; congr 1; show 1074 = k + s; omega
  have key : m / 2 ^ k * 2 ^ E7 < m * 2 ^ s := by
    rw [hE, ← Nat.mul_assoc]
    exact Nat.mul_lt_mul_of_pos_right hlt (Nat.two_pow_pos _)
  generalize m / 2 ^ k * 2 ^ E7 = X at *
  generalize m * 2 ^ s = Z at *
  unfold sgb
  cases ng b
  · simp only [Bool.false_eq_true, if_false]
    rw [cmpI_lt (by omega), cmpI_gt (by omega)]
  · simp only [if_true]
    rw [cmpI_gt (by omega), cmpI_lt (by omega)]; rfl
end
end Go.Proofs.YtbamffggnnacaaaDoor
