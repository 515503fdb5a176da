/-
  Fn7: the nearest float64 of a whole number, and its neighbours.
-/
import Derived.Test.YtdhmbalkclbhpaaGreatDoorQLess6ToFl7
namespace Go.Proofs.YtdhmbalkclbhpaaGreatDoor
set_option linter.unusedVariables false

/-- Exponents, hidden. -/
def E7 : Nat := 1074
def E8 : Nat := 970
/-- The whole number of a rung, without what is behind the point. -/
def wv (r : Nat) : Nat := fv r / 2 ^ E7
/-- Where the infinities begin. -/
def lim7 : Nat := 2 ^ (54 + E8) - 2 ^ E8

theorem p971 : (2 : Nat) ^ (E8 + 1) = 2 * 2 ^ E8 := by rw [Nat.pow_succ, Nat.mul_comm]
theorem lim_parts : lim7 = (2 ^ 53 - 1) * (2 * 2 ^ E8) + 2 ^ E8 := by
  unfold lim7
  rw [Nat.pow_add]
  generalize (2 : Nat) ^ E8 = P
  omega
theorem lim_low : 2 ^ (53 + E8) ≤ lim7 := by
  rw [lim_parts, Nat.pow_add]
  generalize (2 : Nat) ^ E8 = P
  omega

theorem rnd_pos {S : Nat} {p : Nat} (hp : 0 < p) :
    ∃ q t c, S = q * 2 ^ p + t ∧ t < 2 ^ p ∧ rnd S p = c ∧ q = S / 2 ^ p ∧
      ((c = q ∧ 2 * t ≤ 2 ^ p ∧ (2 * t = 2 ^ p → c % 2 = 0)) ∨ (c = q + 1 ∧ 2 ^ p ≤ 2 * t ∧ (2 * t = 2 ^ p → c % 2 = 0))) := by
  have hP : 0 < 2 ^ p := Nat.two_pow_pos p
  have hm : S % 2 ^ p < 2 ^ p := Nat.mod_lt _ hP
  refine ⟨S / 2 ^ p, S % 2 ^ p, _, by rw [Nat.mul_comm]; exact (Nat.div_add_mod S (2 ^ p)).symm, hm, rfl, rfl, ?_⟩
  unfold rnd
  rw [if_neg (by omega), Int.toNat_natCast]
  generalize S % 2 ^ p = t at *
  generalize S / 2 ^ p = q at *
  generalize 2 ^ p = P at *
  by_cases c1 : P < 2 * t ∨ (P = 2 * t ∧ q % 2 = 1)
  · rw [if_pos c1]
    exact .inr ⟨rfl, by omega, by omega⟩
  · rw [if_neg c1]
    exact .inl ⟨rfl, by omega, by omega⟩

/-- Of a whole number: where it is short it is exact; else its steps are 2^p long. -/
theorem near_small {N : Nat} (h : N ≤ 2 ^ 53) : fv (nbits N 0) = N * 2 ^ E7 ∧ nbits N 0 < 2047 * 2 ^ 52 := by
  by_cases h0 : N = 0
  · subst h0; rw [nbits_zero, fv_zero]; omega
  by_cases h1 : N = 2 ^ 53
  · subst h1
    have hl : bitLen (2 ^ 53) = 54 := bl_of (k := 53) (Nat.le_refl _) (by omega)
    obtain ⟨e, c, a1, a2, a3, a4, a5, a6, a7⟩ := nbits_form (S := 2 ^ 53) (n := 0) (by omega) (by rw [hl]; omega)
    have hu : unitOf (2 ^ 53) 0 = 1 := by unfold unitOf; rw [hl]; omega
    rw [hu] at a6
    have he : e = 1075 := by omega
    subst he
    have hc : c = 2 ^ 52 := by rw [a2]; decide
    refine ⟨?_, by rw [a1]; omega⟩
    rw [a5, hc, show (1075 : Nat) = E7 + 1 from rfl, Nat.pow_succ 2 E7]
    generalize 2 ^ E7 = P
    omega
  have hl : bitLen N ≤ 53 := by
    obtain ⟨b1, b2, b3⟩ := bl_bounds h0
    have := (Nat.pow_lt_pow_iff_right (a := 2) (by omega)).1 (Nat.lt_of_le_of_lt b2 (show N < 2 ^ 53 by omega))
    omega
  obtain ⟨e, c, a1, a2, a3, a4, a5, a6, a7⟩ := nbits_form (S := N) (n := 0) h0 (by omega)
  have hu : unitOf N 0 = (bitLen N : Int) - 53 := by unfold unitOf; omega
  rw [hu] at a6
  have hc : c = N * 2 ^ (53 - bitLen N) := by
    rw [a2]; unfold rnd
    rw [if_pos (by omega)]; congr 2; omega
  refine ⟨?_, by rw [a1]; omega⟩
  rw [a5, hc, Nat.mul_assoc, ← Nat.pow_add, show 53 - bitLen N + e = E7 by show _ = 1074; omega]

/-- What is known of the nearest of a long number. -/
theorem near_long {N : Nat} (h : 2 ^ 53 < N) (hL : bitLen N ≤ 1024) :
    ∃ p q t c, 0 < p ∧ p ≤ 971 ∧ N = q * 2 ^ p + t ∧ t < 2 ^ p ∧ 2 ^ 52 ≤ q ∧ q < 2 ^ 53 ∧ nbits N 0 = (p + 1074) * 2 ^ 52 + c ∧
      ((c = q ∧ 2 * t ≤ 2 ^ p ∧ (2 * t = 2 ^ p → c % 2 = 0)) ∨ (c = q + 1 ∧ 2 ^ p ≤ 2 * t ∧ (2 * t = 2 ^ p → c % 2 = 0))) ∧ (bitLen N = 1024 ↔ p = 971) := by
  have h0 : N ≠ 0 := by omega
  have hl : 53 < bitLen N := by
    obtain ⟨b1, b2, b3⟩ := bl_bounds h0
    exact (Nat.pow_lt_pow_iff_right (a := 2) (by omega)).1 (Nat.lt_trans h b1)
  obtain ⟨e, c, a1, a2, a3, a4, a5, a6, a7⟩ := nbits_form (S := N) (n := 0) h0 (by omega)
  have hu : unitOf N 0 = (bitLen N : Int) - 53 := by unfold unitOf; omega
  rw [hu] at a6
  obtain ⟨_, k2⟩ := kept h0 rfl (show (bitLen N : Int) - 53 ≤ ((bitLen N - 53 : Nat) : Int) by omega)
  obtain ⟨k3, k4⟩ := k2 (by omega)
  have k5 := k4 (by omega)
  rw [Int.toNat_natCast] at k3 k5
  obtain ⟨q, t, c', r1, r2, r3, r4, r5⟩ := rnd_pos (S := N) (p := bitLen N - 53) (by omega)
  rw [show (e : Int) - 1074 - 0 = ((bitLen N - 53 : Nat) : Int) by omega, r3] at a2
  subst a2
  rw [← r4] at k3 k5
  exact ⟨bitLen N - 53, q, t, c, by omega, by omega, r1, r2, k5, k3, by rw [a1]; congr 2; omega, r5, by omega⟩

/-- The infinity begins at the limit. -/
theorem near_inf {N : Nat} (h : lim7 ≤ N) : nbits N 0 = 2047 * 2 ^ 52 := by
  have hb : 2 ^ (53 + E8) ≤ N := Nat.le_trans lim_low h
  have h0 : N ≠ 0 := by have := Nat.two_pow_pos (53 + E8); omega
  by_cases hL : bitLen N ≤ 1024
  · have h53 : 2 ^ 53 < N := Nat.lt_of_lt_of_le (Nat.pow_lt_pow_right (by omega) (by unfold E8; omega)) hb
    obtain ⟨p, q, t, c, a1, a2, a3, a4, a5, a6, a7, a8, a9⟩ := near_long h53 hL
    have hl : bitLen N = 1024 := by
      obtain ⟨b1, b2, b3⟩ := bl_bounds h0
      have := (Nat.pow_lt_pow_iff_right (a := 2) (by omega)).1 (Nat.lt_of_le_of_lt hb b1)
      unfold E8 at this
      omega
    have hp : p = 971 := a9.1 hl
    have e1 := lim_parts
    have e2 : 2 ^ p = 2 * 2 ^ E8 := by rw [show p = E8 + 1 from hp]; exact p971
    rw [e1] at h
    rw [e2] at a3 a4 a8
    rw [a7]
    clear e1 e2 hb h53 a7 a9
    generalize hP : (2 : Nat) ^ E8 = P at *
    have hq : q = 2 ^ 53 - 1 := by
      rcases Nat.lt_or_ge q (2 ^ 53 - 1) with z | z
      · exfalso
        have : q * (2 * P) + (2 * P) ≤ (2 ^ 53 - 1) * (2 * P) := by
          rw [← Nat.succ_mul]; exact Nat.mul_le_mul_right _ (by omega)
        omega
      · omega
    subst hq
    have : c = 2 ^ 53 := by omega
    subst this
    omega
  · unfold nbits
    rw [if_neg h0, if_pos (by omega)]
theorem lim_bl {N : Nat} (h : N < lim7) : bitLen N ≤ 1024 := by
  by_cases h0 : N = 0
  · subst h0; decide
  obtain ⟨b1, b2, b3⟩ := bl_bounds h0
  have : 2 ^ (bitLen N - 1) < 2 ^ (54 + E8) := Nat.lt_of_le_of_lt b2 (Nat.lt_of_lt_of_le h (by unfold lim7; exact Nat.sub_le _ _))
  have := (Nat.pow_lt_pow_iff_right (a := 2) (by omega)).1 this
  unfold E8 at this
  omega
/-- Below the limit the nearest is finite and whole. -/
theorem near_fin {N : Nat} (h : N < lim7) : nbits N 0 < 2047 * 2 ^ 52 ∧ fv (nbits N 0) = wv (nbits N 0) * 2 ^ E7 := by
  by_cases h53 : N ≤ 2 ^ 53
  · obtain ⟨a, b⟩ := near_small h53
    refine ⟨b, ?_⟩
    unfold wv; rw [a, Nat.mul_div_cancel _ (Nat.two_pow_pos _)]
  · obtain ⟨p, q, t, c, a1, a2, a3, a4, a5, a6, a7, a8, a9⟩ := near_long (by omega) (lim_bl h)
    have hv : fv (nbits N 0) = c * 2 ^ p * 2 ^ E7 := by
      rw [a7, fv_at _ _ (by omega) (.inr (by omega)), show (1074 : Nat) = E7 from rfl, Nat.pow_add, Nat.mul_assoc]
    refine ⟨?_, ?_⟩
    · rw [a7]
      rcases Nat.lt_or_ge p 971 with z | z
      · omega
      · have hp : p = 971 := by omega
        have e1 := lim_parts
        have e2 : 2 ^ p = 2 * 2 ^ E8 := by rw [show p = E8 + 1 from hp]; exact p971
        rw [e1] at h
        rw [e2] at a3 a4 a8
        clear e1 e2 h53 a7 a9 hv
        generalize hP : (2 : Nat) ^ E8 = P at *
        by_cases hq : q = 2 ^ 53 - 1
        · subst hq; omega
        · omega
    · unfold wv; rw [hv, Nat.mul_div_cancel _ (Nat.two_pow_pos _)]
/-- How far two numbers are apart. -/
def gap (a b : Nat) : Nat := ((a : Int) - (b : Int)).natAbs
theorem near_next {N : Nat} (h53 : 2 ^ 53 < N) (h : N < lim7) :
    gap N (wv (nbits N 0)) ≤ gap N (wv (nbits N 0 + 1)) ∧ (gap N (wv (nbits N 0)) = gap N (wv (nbits N 0 + 1)) → nbits N 0 % 2 = 0) := by
  obtain ⟨p, q, t, c, a1, a2, a3, a4, a5, a6, a7, a8, a9⟩ := near_long h53 (lim_bl h)
  have hv : wv (nbits N 0) = c * 2 ^ p := by
    unfold wv
    rw [a7, fv_at _ _ (by omega) (.inr (by omega)), show (1074 : Nat) = E7 from rfl, Nat.pow_add, ← Nat.mul_assoc, Nat.mul_div_cancel _ (Nat.two_pow_pos _)]
  have hn : ∃ k, 1 ≤ k ∧ wv (nbits N 0 + 1) = c * 2 ^ p + k * 2 ^ p := by
    by_cases hc : c < 2 ^ 53
    · refine ⟨1, Nat.le_refl _, ?_⟩
      unfold wv
      rw [a7, Nat.add_assoc, fv_at _ _ (by omega) (.inr (by omega)), show (1074 : Nat) = E7 from rfl, Nat.pow_add, ← Nat.mul_assoc, Nat.mul_div_cancel _ (Nat.two_pow_pos _), Nat.add_mul]
    · refine ⟨2, by omega, ?_⟩
      have ec : c = 2 ^ 53 := by omega
      unfold wv
      rw [a7, show (p + 1074) * 2 ^ 52 + c + 1 = (p + 1 + 1074) * 2 ^ 52 + (2 ^ 52 + 1) by omega, fv_at _ _ (by omega) (.inr (by omega)), show (1074 : Nat) = E7 from rfl, Nat.pow_add, ← Nat.mul_assoc, Nat.mul_div_cancel _ (Nat.two_pow_pos _), Nat.pow_succ 2 p, ec]
      generalize 2 ^ p = P
      omega
  obtain ⟨k, hk, hn⟩ := hn
  have hkP : 2 ^ p ≤ k * 2 ^ p := Nat.le_mul_of_pos_left _ hk
  have hr : nbits N 0 % 2 = c % 2 := by rw [a7]; omega
  rw [hr, hv, hn]
  clear hv hn hr a7 a9 h h53
  unfold gap
  generalize k * 2 ^ p = K at *
  rcases a8 with ⟨rfl, b1, b2⟩ | ⟨rfl, b1, b2⟩
  · generalize c * 2 ^ p = Q at *
    generalize 2 ^ p = P at *
    omega
  · rw [Nat.add_mul, Nat.one_mul]
    generalize q * 2 ^ p = Q at *
    generalize 2 ^ p = P at *
    omega
theorem near_prev {N : Nat} (h53 : 2 ^ 53 < N) (h : N < lim7) :
    0 < nbits N 0 ∧ gap N (wv (nbits N 0)) ≤ gap N (wv (nbits N 0 - 1)) ∧ (gap N (wv (nbits N 0)) = gap N (wv (nbits N 0 - 1)) → nbits N 0 % 2 = 0) := by
  obtain ⟨p, q, t, c, a1, a2, a3, a4, a5, a6, a7, a8, a9⟩ := near_long h53 (lim_bl h)
  have hv : wv (nbits N 0) = c * 2 ^ p := by
    unfold wv
    rw [a7, fv_at _ _ (by omega) (.inr (by omega)), show (1074 : Nat) = E7 from rfl, Nat.pow_add, ← Nat.mul_assoc, Nat.mul_div_cancel _ (Nat.two_pow_pos _)]
  refine ⟨by rw [a7]; omega, ?_⟩
  have hr : nbits N 0 % 2 = c % 2 := by rw [a7]; omega
  by_cases hc : 2 ^ 52 < c
  · have hn : wv (nbits N 0 - 1) + 2 ^ p = c * 2 ^ p := by
      unfold wv
      rw [a7, show (p + 1074) * 2 ^ 52 + c - 1 = (p + 1074) * 2 ^ 52 + (c - 1) by omega, fv_at _ _ (by omega) (.inr (by omega)), show (1074 : Nat) = E7 from rfl, Nat.pow_add, ← Nat.mul_assoc, Nat.mul_div_cancel _ (Nat.two_pow_pos _), ← Nat.succ_mul]
      congr 1; omega
    rw [hr, hv]
    generalize wv (nbits N 0 - 1) = W at *
    clear hv hr a7 a9 h h53
    unfold gap
    rcases a8 with ⟨rfl, b1, b2⟩ | ⟨rfl, b1, b2⟩
    · generalize c * 2 ^ p = Q at *
      generalize 2 ^ p = P at *
      omega
    · rw [Nat.add_mul, Nat.one_mul] at *
      generalize q * 2 ^ p = Q at *
      generalize 2 ^ p = P at *
      omega
  · have ec : c = 2 ^ 52 := by omega
    have hn : wv (nbits N 0 - 1) < c * 2 ^ p := by
      rw [← hv]
      have e1 : fv (nbits N 0) = c * 2 ^ p * 2 ^ E7 := by
        rw [a7, fv_at _ _ (by omega) (.inr (by omega)), show (1074 : Nat) = E7 from rfl, Nat.pow_add, Nat.mul_assoc]
      rw [hv]
      unfold wv
      rw [Nat.div_lt_iff_lt_mul (Nat.two_pow_pos _), ← e1]
      exact fv_lt (by rw [a7]; omega)
    rw [hr, hv]
    generalize wv (nbits N 0 - 1) = W at *
    have e : c = q := by omega
    subst e
    unfold gap
    generalize c * 2 ^ p = Q at *
    generalize 2 ^ p = P at *
    omega
end Go.Proofs.YtdhmbalkclbhpaaGreatDoor
