/-
  Fl7: float64 in numbers: the value of a rung in steps of 2^-1074; the nearest rung.
-/
import Derived.Laws.MathBits
namespace Go.Proofs.YtbamffggnnacaaaDoor
set_option linter.unusedVariables false

/-- The value of a rung, in steps of 2^-1074. -/
def fv (r : Nat) : Nat := if r < 2 ^ 52 then r else (2 ^ 52 + r % 2 ^ 52) * 2 ^ (r / 2 ^ 52 - 1)

theorem fv_at (e c : Nat) (hc : c ≤ 2 ^ 53) (h : e = 0 ∨ 2 ^ 52 ≤ c) : fv (e * 2 ^ 52 + c) = c * 2 ^ e := by
  unfold fv
  by_cases c1 : c < 2 ^ 52
  · have e0 : e = 0 := by omega
    subst e0; simp; omega
  · rw [if_neg (by omega)]
    by_cases c2 : c < 2 ^ 53
    · have d : (e * 2 ^ 52 + c) / 2 ^ 52 = e + 1 := by omega
      have m : (e * 2 ^ 52 + c) % 2 ^ 52 = c - 2 ^ 52 := by omega
      rw [d, m, show 2 ^ 52 + (c - 2 ^ 52) = c by omega, Nat.add_sub_cancel]
    · have ec : c = 2 ^ 53 := by omega
      subst ec
      have d : (e * 2 ^ 52 + 2 ^ 53) / 2 ^ 52 = e + 2 := by omega
      have m : (e * 2 ^ 52 + 2 ^ 53) % 2 ^ 52 = 0 := by omega
      rw [d, m, show e + 2 - 1 = e + 1 by omega, Nat.pow_succ 2 e, Nat.mul_comm (2 ^ e) 2, ← Nat.mul_assoc]
/-- Every rung is so many steps of one length. -/
theorem rung_form (r : Nat) : ∃ e c, r = e * 2 ^ 52 + c ∧ c < 2 ^ 53 ∧ (e = 0 ∨ 2 ^ 52 ≤ c) ∧ fv r = c * 2 ^ e := by
  by_cases h : r < 2 ^ 52
  · exact ⟨0, r, by omega, by omega, .inl rfl, by simpa using fv_at 0 r (by omega) (.inl rfl)⟩
  · refine ⟨r / 2 ^ 52 - 1, 2 ^ 52 + r % 2 ^ 52, by omega, by omega, .inr (by omega), ?_⟩
    unfold fv; rw [if_neg h]
theorem fv_zero : fv 0 = 0 := rfl
/-- The next rung is higher. -/
theorem fv_succ (r : Nat) : fv r < fv (r + 1) := by
  obtain ⟨e, c, h1, h2, h3, h4⟩ := rung_form r
  rw [h4, h1, Nat.add_assoc, fv_at e (c + 1) (by omega) (by omega)]
  exact Nat.mul_lt_mul_of_pos_right (by omega) (Nat.two_pow_pos _)
theorem fv_mono {r s : Nat} (h : r ≤ s) : fv r ≤ fv s := by
  induction s with
  | zero => rw [show r = 0 by omega]; exact Nat.le_refl _
  | succ s ih =>
    by_cases e : r = s + 1
    · rw [e]; exact Nat.le_refl _
    · exact Nat.le_trans (ih (by omega)) (Nat.le_of_lt (fv_succ s))
theorem fv_lt {r s : Nat} (h : r < s) : fv r < fv s := Nat.lt_of_lt_of_le (fv_succ r) (fv_mono h)
theorem fv_inj {r s : Nat} (h : fv r = fv s) : r = s := by
  rcases Nat.lt_trichotomy r s with q | q | q
  · have := fv_lt q; omega
  · exact q
  · have := fv_lt q; omega
theorem fv_eq_zero {r : Nat} : fv r = 0 ↔ r = 0 := ⟨fun h => fv_inj (h.trans fv_zero.symm), fun h => by rw [h]; rfl⟩

/-- So many steps, 2^p times as long, rounded to the even one in the middle. -/
def rnd (S : Nat) (p : Int) : Nat :=
  if p ≤ 0 then S * 2 ^ (-p).toNat
  else S / 2 ^ p.toNat + (if 2 ^ p.toNat < 2 * (S % 2 ^ p.toNat) ∨ (2 ^ p.toNat = 2 * (S % 2 ^ p.toNat) ∧ S / 2 ^ p.toNat % 2 = 1) then 1 else 0)
def unitOf (S : Nat) (n : Int) : Int := max ((bitLen S : Int) + n - 53) (-1074)
/-- The bits of the float64 nearest to S * 2^n. -/
def nbits (S : Nat) (n : Int) : Nat :=
  if S = 0 then 0 else if 1024 < (bitLen S : Int) + n then 2047 * 2 ^ 52
  else (unitOf S n + 1074).toNat * 2 ^ 52 + rnd S (unitOf S n - n)

theorem nbits_zero (n : Int) : nbits 0 n = 0 := by unfold nbits; rw [if_pos rfl]
theorem bl_bounds {v : Nat} (h : v ≠ 0) : v < 2 ^ bitLen v ∧ 2 ^ (bitLen v - 1) ≤ v ∧ 0 < bitLen v := by
  unfold bitLen
  rw [if_neg h]
  exact ⟨Nat.lt_log2_self, by rw [Nat.add_sub_cancel]; exact Nat.log2_self_le h, by omega⟩
theorem bl_of {v k : Nat} (h1 : 2 ^ k ≤ v) (h2 : v < 2 ^ (k + 1)) : bitLen v = k + 1 := by
  have h0 : v ≠ 0 := by have := Nat.two_pow_pos k; omega
  obtain ⟨b1, b2, b3⟩ := bl_bounds h0
  have i1 : k < bitLen v := (Nat.pow_lt_pow_iff_right (a := 2) (by omega)).1 (Nat.lt_of_le_of_lt h1 b1)
  have i2 : bitLen v - 1 < k + 1 := (Nat.pow_lt_pow_iff_right (a := 2) (by omega)).1 (Nat.lt_of_le_of_lt b2 h2)
  omega
theorem bl_shift {v : Nat} (h : v ≠ 0) (k : Nat) : bitLen (v * 2 ^ k) = bitLen v + k := by
  obtain ⟨b1, b2, b3⟩ := bl_bounds h
  have e : bitLen v + k = (bitLen v - 1 + k) + 1 := by omega
  rw [e]
  refine bl_of ?_ ?_
  · rw [Nat.pow_add]; exact Nat.mul_le_mul_right _ b2
  · rw [show bitLen v - 1 + k + 1 = bitLen v + k by omega, Nat.pow_add]; exact Nat.mul_lt_mul_of_pos_right b1 (Nat.two_pow_pos _)
/-- Rounding is the same for a number told in shorter steps. -/
theorem rnd_shift (S k : Nat) (p : Int) : rnd (S * 2 ^ k) (p + k) = rnd S p := by
  have hk : 0 < 2 ^ k := Nat.two_pow_pos k
  unfold rnd
  by_cases h1 : p ≤ 0
  · rw [if_pos h1]
    by_cases h2 : p + k ≤ 0
    · rw [if_pos h2, Nat.mul_assoc, ← Nat.pow_add, show k + (-(p + k)).toNat = (-p).toNat by omega]
    · rw [if_neg h2]
      have e : S * 2 ^ k = 2 ^ (p + (k : Int)).toNat * (S * 2 ^ (-p).toNat) := by
        rw [Nat.mul_left_comm, ← Nat.pow_add, show (p + (k : Int)).toNat + (-p).toNat = k by omega]
      rw [e, Nat.mul_div_cancel_left _ (Nat.two_pow_pos _), Nat.mul_mod_right]
      have := Nat.two_pow_pos (p + (k : Int)).toNat
      rw [if_neg (by omega)]; omega
  · rw [if_neg h1, if_neg (by omega)]
    have e : (p + (k : Int)).toNat = p.toNat + k := by omega
    rw [e, Nat.pow_add, Nat.mul_div_mul_right _ _ hk, Nat.mul_mod_mul_right]
    have e1 : (2 ^ p.toNat * 2 ^ k < 2 * (S % 2 ^ p.toNat * 2 ^ k)) ↔ (2 ^ p.toNat < 2 * (S % 2 ^ p.toNat)) := by
      rw [← Nat.mul_assoc]; exact Nat.mul_lt_mul_right hk
    have e2 : (2 ^ p.toNat * 2 ^ k = 2 * (S % 2 ^ p.toNat * 2 ^ k)) ↔ (2 ^ p.toNat = 2 * (S % 2 ^ p.toNat)) := by
      rw [← Nat.mul_assoc]
      exact ⟨fun q => Nat.eq_of_mul_eq_mul_right hk q, fun q => congrArg (· * 2 ^ k) q⟩
    simp only [e1, e2]
theorem nbits_shift (S k : Nat) (n : Int) : nbits (S * 2 ^ k) (n - k) = nbits S n := by
  have hk : 0 < 2 ^ k := Nat.two_pow_pos k
  by_cases h0 : S = 0
  · subst h0; rw [Nat.zero_mul, nbits_zero, nbits_zero]
  · have h1 : S * 2 ^ k ≠ 0 := Nat.mul_ne_zero h0 (by omega)
    have hu : unitOf (S * 2 ^ k) (n - k) = unitOf S n := by
      unfold unitOf; rw [bl_shift h0]; congr 1; omega
    unfold nbits
    rw [if_neg h0, if_neg h1, hu, bl_shift h0]
    rw [show ((bitLen S + k : Nat) : Int) + (n - k) = (bitLen S : Int) + n by omega, show unitOf S n - (n - k) = unitOf S n - n + k by omega, rnd_shift]
/-- What is kept of a number has at most 53 digits, and just so many but in the shortest steps. -/
theorem kept {S : Nat} {p : Int} {L : Nat} (hS : S ≠ 0) (hL : bitLen S = L) (hp : (L : Int) - 53 ≤ p) :
    (p ≤ 0 → S * 2 ^ (-p).toNat < 2 ^ 53 ∧ (p = (L : Int) - 53 → 2 ^ 52 ≤ S * 2 ^ (-p).toNat)) ∧
    (0 < p → S / 2 ^ p.toNat < 2 ^ 53 ∧ (p = (L : Int) - 53 → 2 ^ 52 ≤ S / 2 ^ p.toNat)) := by
  obtain ⟨b1, b2, b3⟩ := bl_bounds hS
  rw [hL] at b1 b2 b3
  constructor
  · intro h
    refine ⟨Nat.lt_of_lt_of_le (Nat.mul_lt_mul_of_pos_right b1 (Nat.two_pow_pos _)) ?_, fun q => Nat.le_trans ?_ (Nat.mul_le_mul_right _ b2)⟩
    · rw [← Nat.pow_add]; exact Nat.pow_le_pow_right (by omega) (by omega)
    · rw [← Nat.pow_add]; exact Nat.pow_le_pow_right (by omega) (by omega)
  · intro h
    refine ⟨(Nat.div_lt_iff_lt_mul (Nat.two_pow_pos _)).2 (Nat.lt_of_lt_of_le b1 ?_), fun q => (Nat.le_div_iff_mul_le (Nat.two_pow_pos _)).2 (Nat.le_trans ?_ b2)⟩
    · rw [← Nat.pow_add]; exact Nat.pow_le_pow_right (by omega) (by omega)
    · rw [← Nat.pow_add]; exact Nat.pow_le_pow_right (by omega) (by omega)
/-- What the nearest is, where it is not out of reach. -/
theorem nbits_form {S : Nat} {n : Int} (hS : S ≠ 0) (h : (bitLen S : Int) + n ≤ 1024) :
    ∃ e c : Nat, nbits S n = e * 2 ^ 52 + c ∧ c = rnd S ((e : Int) - 1074 - n) ∧ c ≤ 2 ^ 53 ∧ (e = 0 ∨ 2 ^ 52 ≤ c) ∧ fv (nbits S n) = c * 2 ^ e ∧ (e : Int) - 1074 = unitOf S n ∧ e ≤ 2045 := by
  have hu1 : (bitLen S : Int) + n - 53 ≤ unitOf S n := by unfold unitOf; omega
  have hu2 : -1074 ≤ unitOf S n := by unfold unitOf; omega
  have hu3 : unitOf S n = (bitLen S : Int) + n - 53 ∨ unitOf S n = -1074 := by unfold unitOf; omega
  have hu4 : unitOf S n ≤ 971 := by omega
  obtain ⟨k1, k2⟩ := kept hS rfl (show (bitLen S : Int) - 53 ≤ unitOf S n - n by omega)
  have hr : rnd S (unitOf S n - n) ≤ 2 ^ 53 ∧ (unitOf S n = -1074 ∨ 2 ^ 52 ≤ rnd S (unitOf S n - n)) := by
    unfold rnd
    by_cases hp : unitOf S n - n ≤ 0
    · rw [if_pos hp]
      obtain ⟨a1, a2⟩ := k1 hp
      exact ⟨by omega, by rcases hu3 with q | q
                          · exact .inr (a2 (by omega))
                          · exact .inl q⟩
    · rw [if_neg hp]
      obtain ⟨a1, a2⟩ := k2 (by omega)
      refine ⟨by split <;> omega, ?_⟩
      rcases hu3 with q | q
      · exact .inr (Nat.le_trans (a2 (by omega)) (Nat.le_add_right _ _))
      · exact .inl q
  have he : (((unitOf S n + 1074).toNat : Nat) : Int) = unitOf S n + 1074 := by omega
  have hn : nbits S n = (unitOf S n + 1074).toNat * 2 ^ 52 + rnd S (unitOf S n - n) := by
    unfold nbits; rw [if_neg hS, if_neg (by omega)]
  have hz : (unitOf S n + 1074).toNat = 0 ∨ 2 ^ 52 ≤ rnd S (unitOf S n - n) := by
    rcases hr.2 with q | q
    · exact .inl (by omega)
    · exact .inr q
  refine ⟨(unitOf S n + 1074).toNat, rnd S (unitOf S n - n), hn, by rw [he]; congr 1; omega, hr.1, hz, ?_, by omega, by omega⟩
  rw [hn]
  exact fv_at _ _ hr.1 hz
theorem nbits_le (S : Nat) (n : Int) : nbits S n ≤ 2047 * 2 ^ 52 := by
  by_cases hS : S = 0
  · subst hS; rw [nbits_zero]; omega
  by_cases h : 1024 < (bitLen S : Int) + n
  · unfold nbits; rw [if_neg hS, if_pos h]; exact Nat.le_refl _
  · obtain ⟨e, c, h1, _, h2, _, _, _, h3⟩ := nbits_form hS (show (bitLen S : Int) + n ≤ 1024 by omega)
    omega
/-- A number that is a rung is its own nearest. -/
theorem nbits_fv {r : Nat} (h : r < 2047 * 2 ^ 52) : nbits (fv r) (-1074) = r := by
  by_cases h0 : r = 0
  · subst h0; rw [fv_zero, nbits_zero]
  obtain ⟨e, c, h1, h2, h3, h4⟩ := rung_form r
  have hc0 : c ≠ 0 := by
    rintro rfl
    rcases h3 with q | q <;> omega
  have he : e ≤ 2045 := by omega
  rw [h4]
  have hs := nbits_shift c e (-1074 + e)
  rw [show -1074 + (e : Int) - e = -1074 by omega] at hs
  rw [hs]
  have hl : bitLen c ≤ 53 := by
    obtain ⟨b1, b2, b3⟩ := bl_bounds hc0
    have := (Nat.pow_lt_pow_iff_right (a := 2) (by omega)).1 (Nat.lt_of_le_of_lt b2 h2)
    omega
  have hu : unitOf c (-1074 + e) = -1074 + e := by
    unfold unitOf
    rcases h3 with q | q
    · subst q; omega
    · rw [bl_of (k := 52) q h2]; omega
  unfold nbits
  rw [if_neg hc0, if_neg (by omega), hu, show -1074 + (e : Int) - (-1074 + e) = 0 by omega]
  unfold rnd
  rw [if_pos (by omega), h1]
  simp
  omega
end Go.Proofs.YtbamffggnnacaaaDoor
