/-
  Fz7: what the law ApproxNearest asks, in numbers.
-/
import Derived.Test.YtbamffggnnacaaaDoorQWc7
namespace Go.Proofs.YtbamffggnnacaaaDoor
open Go.RowKit
set_option linter.unusedVariables false

theorem nbits_ne {N : Nat} (h : N ≠ 0) : nbits N 0 ≠ 0 := by
  by_cases h1 : N ≤ 2 ^ 53
  · obtain ⟨a, b⟩ := near_small h1
    intro e
    rw [e, fv_zero] at a
    have := Nat.mul_ne_zero h (show 2 ^ E7 ≠ 0 by have := Nat.two_pow_pos E7; omega)
    omega
  · by_cases h2 : N < lim7
    · have := (near_prev (by omega) h2).1; omega
    · rw [near_inf (by omega)]; omega
/-- A size with the sign of A. -/
def sgd (A : Int) (x : Nat) : Int := if A < 0 then -(x : Int) else (x : Int)
theorem sgd_gap (A : Int) (x : Nat) : (A - sgd A x).natAbs = gap A.natAbs x := by
  unfold sgd gap
  split <;> omega
theorem zw_eq {A : Int} (h : A ≠ 0) : zw A 0 = (if A < 0 then 2 ^ 63 else 0) + nbits A.natAbs 0 := by
  have hn := nbits_ne (show A.natAbs ≠ 0 by omega)
  unfold zw fw
  by_cases q : A < 0
  · rw [if_pos ⟨by simpa using q, hn⟩, if_pos q]
  · rw [if_neg (by simp [q]), if_neg q, Nat.zero_add]
theorem swv_zero : swv 0 = 0 := by
  unfold swv wv
  rw [show rg 0 = 0 from rfl, fv_zero, Nat.zero_div]
  rfl
theorem zw_zero : zw 0 0 = 0 := by decide
/-- A word of the same sign. -/
theorem sg_word {A : Int} {r : Nat} (h : r < 2 ^ 63) : rg ((if A < 0 then 2 ^ 63 else 0) + r) = r ∧ swv ((if A < 0 then 2 ^ 63 else 0) + r) = sgd A (wv r) ∧ sv ((if A < 0 then 2 ^ 63 else 0) + r) = sgd A (fv r) := by
  unfold swv sv sgd
  by_cases q : A < 0
  · rw [if_pos q, (rg_neg h).1, (rg_neg h).2]
    simp [q]
  · rw [if_neg q, Nat.zero_add, (rg_pos h).1, (rg_pos h).2]
    simp [q]
theorem zw_lt (A : Int) : zw A 0 < 2 ^ 64 := by
  have := nbits_le A.natAbs 0
  unfold zw fw
  split <;> omega
theorem near_f_inf {A : Int} (h : lim7 ≤ A.natAbs) : infAs (zw A 0) (cmpI A 0) = true := by
  have hp : 0 < lim7 := Nat.lt_of_lt_of_le (Nat.two_pow_pos _) lim_low
  have h0 : A ≠ 0 := by rintro rfl; simp at h; omega
  rw [zw_eq h0, near_inf h]
  unfold infAs
  by_cases q : A < 0
  · rw [if_pos q, (rg_neg (by omega)).1, (rg_neg (by omega)).2, cmpI_lt q]; decide
  · rw [if_neg q, Nat.zero_add, (rg_pos (by omega)).1, (rg_pos (by omega)).2, cmpI_gt (by omega)]; decide
theorem near_f_fin {A : Int} (h : A.natAbs < lim7) : Fin7 (zw A 0) ∧ ((zw A 0 : Int) == 9223372036854775808) = false ∧ acv (swv (zw A 0)) (zw A 0) = 0 := by
  by_cases h0 : A = 0
  · subst h0
    rw [zw_zero]
    refine ⟨by decide, by decide, ?_⟩
    unfold acv
    rw [swv_zero, sv_zero, Int.zero_mul]; rfl
  · obtain ⟨f1, f2⟩ := near_fin h
    have hn := nbits_ne (show A.natAbs ≠ 0 by omega)
    rw [zw_eq h0]
    obtain ⟨s1, s2, s3⟩ := sg_word (A := A) (r := nbits A.natAbs 0) (by omega)
    refine ⟨?_, ?_, ?_⟩
    · unfold Fin7; rw [s1]; exact f1
    · rw [beq_eq_false_iff_ne]
      split <;> omega
    · unfold acv
      rw [s2, s3, f2]
      unfold sgd
      by_cases q : A < 0
      · rw [if_pos q, if_pos q, Int.natCast_mul, Int.neg_mul]; exact cmpI_self _
      · rw [if_neg q, if_neg q, Int.natCast_mul]; exact cmpI_self _
theorem near_f_small {A : Int} (h : A.natAbs ≤ 2 ^ 53) : A - swv (zw A 0) = 0 := by
  by_cases h0 : A = 0
  · subst h0; rw [zw_zero, swv_zero]; rfl
  · obtain ⟨f1, f2⟩ := near_small h
    have hw : wv (nbits A.natAbs 0) = A.natAbs := by unfold wv; rw [f1, Nat.mul_div_cancel _ (Nat.two_pow_pos _)]
    rw [zw_eq h0, (sg_word (A := A) (r := nbits A.natAbs 0) (by omega)).2.1, hw]
    unfold sgd
    split <;> omega
/-- No neighbour is nearer. -/
structure Nb (A : Int) (X : Nat) : Prop where
  lt : X < 2 ^ 64
  le : cmpI (((A - swv (zw A 0)).natAbs : Nat) : Int) (((A - swv X).natAbs : Nat) : Int) ≤ 0
  ev : cmpI (((A - swv (zw A 0)).natAbs : Nat) : Int) (((A - swv X).natAbs : Nat) : Int) = 0 → zw A 0 % 2 = 0
theorem cmpI_le {a b : Int} (h : a ≤ b) : cmpI a b ≤ 0 := by unfold cmpI; split <;> (try split) <;> omega
theorem near_f_next {A : Int} (h53 : 2 ^ 53 < A.natAbs) (h : A.natAbs < lim7) : Nb A (zw A 0 + 1) := by
  have h0 : A ≠ 0 := by rintro rfl; simp at h53
  have hl := (near_fin h).1
  obtain ⟨g1, g2⟩ := near_next h53 h
  have e1 := zw_eq h0
  obtain ⟨-, s2, -⟩ := sg_word (A := A) (r := nbits A.natAbs 0) (by omega)
  obtain ⟨-, t2, -⟩ := sg_word (A := A) (r := nbits A.natAbs 0 + 1) (by omega)
  rw [← Nat.add_assoc] at t2
  rw [← e1] at s2 t2
  have hm : zw A 0 % 2 = nbits A.natAbs 0 % 2 := by rw [e1]; split <;> omega
  refine ⟨by rw [e1]; split <;> omega, ?_, ?_⟩
  · rw [s2, t2, sgd_gap, sgd_gap]
    exact cmpI_le (by omega)
  · rw [s2, t2, sgd_gap, sgd_gap, hm]
    intro e
    exact g2 (by have := cmpI_none e; omega)
theorem near_f_prev {A : Int} (h53 : 2 ^ 53 < A.natAbs) (h : A.natAbs < lim7) : 1 ≤ zw A 0 ∧ Fin7 (zw A 0 - 1) ∧ Nb A (zw A 0 - 1) := by
  have h0 : A ≠ 0 := by rintro rfl; simp at h53
  have hl := (near_fin h).1
  obtain ⟨g0, g1, g2⟩ := near_prev h53 h
  have e1 := zw_eq h0
  obtain ⟨-, s2, -⟩ := sg_word (A := A) (r := nbits A.natAbs 0) (by omega)
  obtain ⟨t1, t2, -⟩ := sg_word (A := A) (r := nbits A.natAbs 0 - 1) (by omega)
  rw [← Nat.add_sub_assoc (by omega)] at t1 t2
  rw [← e1] at s2 t1 t2
  have hm : zw A 0 % 2 = nbits A.natAbs 0 % 2 := by rw [e1]; split <;> omega
  refine ⟨by rw [e1]; omega, by unfold Fin7; rw [t1]; omega, by rw [e1]; split <;> omega, ?_, ?_⟩
  · rw [s2, t2, sgd_gap, sgd_gap]
    exact cmpI_le (by omega)
  · rw [s2, t2, sgd_gap, sgd_gap, hm]
    intro e
    exact g2 (by have := cmpI_none e; omega)
end Go.Proofs.YtbamffggnnacaaaDoor
