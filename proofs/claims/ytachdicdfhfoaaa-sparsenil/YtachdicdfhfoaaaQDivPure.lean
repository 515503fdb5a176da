/-
  DivPure: long division by two digits, in numbers.
-/
import Derived.Test.YtachdicdfhfoaaaQBits
namespace Go.Proofs.Ytachdicdfhfoaaa
open Go.RowKit

/-- Where the search for a digit stands: q times the divisor's head and r are u; q is not too small. -/
def DivAt (y1 y0 u d q r : Nat) : Prop := q * y1 + r = u ∧ u * 4294967296 + d < (q + 1) * (y1 * 4294967296 + y0)
/-- The digit is found. -/
def DivIs (y1 y0 u d q : Nat) : Prop := q < 4294967296 ∧ q * (y1 * 4294967296 + y0) ≤ u * 4294967296 + d ∧ u * 4294967296 + d < (q + 1) * (y1 * 4294967296 + y0)

theorem mul_two (q y1 y0 : Nat) : q * (y1 * 4294967296 + y0) = q * y1 * 4294967296 + q * y0 := by rw [Nat.mul_add, Nat.mul_assoc]
theorem over_aux {B y1 y0 u d q r : Nat} (h1 : q * y1 + r = u) (ht : r * B + d < q * y0) : u * B + d < q * (y1 * B + y0) := by
  subst h1
  rw [Nat.mul_add, ← Nat.mul_assoc, Nat.add_mul]
  omega
theorem stop_aux {B y1 y0 u d q r : Nat} (h1 : q * y1 + r = u) (ht : q * y0 ≤ r * B + d) : q * (y1 * B + y0) ≤ u * B + d := by
  subst h1
  rw [Nat.mul_add, ← Nat.mul_assoc, Nat.add_mul]
  omega
theorem DivAt.start {y1 y0 u d : Nat} (hy : 0 < y1) (hd : d < 4294967296) : DivAt y1 y0 u d (u / y1) (u % y1) := by
  have h1 := Nat.div_add_mod u y1
  have h2 := Nat.mod_lt u hy
  rw [Nat.mul_comm] at h1
  refine ⟨h1, ?_⟩
  rw [mul_two, Nat.add_mul, Nat.one_mul]
  omega
theorem DivAt.over {y1 y0 u d q r : Nat} (h : DivAt y1 y0 u d q r) (hu : u < y1 * 4294967296 + y0) (hd : d < 4294967296) (ht : 4294967296 ≤ q ∨ r * 4294967296 + d < q * y0) :
    ∃ k, q = k + 1 ∧ DivAt y1 y0 u d k (r + y1) := by
  obtain ⟨h1, h2⟩ := h
  have h3 : u * 4294967296 + d < q * (y1 * 4294967296 + y0) := by
    rcases ht with ht | ht
    · obtain ⟨Y, hY⟩ : ∃ Y, Y = y1 * 4294967296 + y0 := ⟨_, rfl⟩
      rw [← hY] at hu ⊢
      have h5 := Nat.mul_le_mul_right Y ht
      obtain ⟨m, hm⟩ : ∃ m, m = q * Y := ⟨_, rfl⟩
      rw [← hm] at h5 ⊢
      have h6 : 4294967296 * (u + 1) ≤ 4294967296 * Y := Nat.mul_le_mul_left _ hu
      have h7 := Nat.le_trans h6 h5
      clear hm h2 h1 hY h5 h6 hu ht
      omega
    · exact over_aux h1 ht
  have h4 : q ≠ 0 := fun e => by subst e; simp at h3
  obtain ⟨k, rfl⟩ := Nat.exists_eq_succ_of_ne_zero h4
  refine ⟨k, rfl, ?_, h3⟩
  rw [Nat.succ_mul] at h1
  omega
theorem DivAt.small {y1 y0 u d q r : Nat} (h : DivAt y1 y0 u d q r) (hu : u < y1 * 4294967296 + y0) (hy0 : y0 < 4294967296) (hr : 4294967296 ≤ r) : DivIs y1 y0 u d q := by
  obtain ⟨h1, h2⟩ := h
  have hq : q < 4294967296 := by
    refine Nat.lt_of_not_le fun hq => ?_
    have := Nat.mul_le_mul_right y1 hq
    omega
  refine ⟨hq, stop_aux h1 ?_, h2⟩
  have h5 : q * y0 ≤ 4294967295 * 4294967295 := Nat.mul_le_mul (by omega) (by omega)
  exact Nat.le_trans h5 (by clear h5 h1 h2; omega)
theorem DivAt.stop {y1 y0 u d q r : Nat} (h : DivAt y1 y0 u d q r) (hq : q < 4294967296) (ht : q * y0 ≤ r * 4294967296 + d) : DivIs y1 y0 u d q := by
  obtain ⟨h1, h2⟩ := h
  exact ⟨hq, stop_aux h1 ht, h2⟩
theorem DivIs.rest {y1 y0 u d q : Nat} (h : DivIs y1 y0 u d q) : ∃ v, q * (y1 * 4294967296 + y0) + v = u * 4294967296 + d ∧ v < y1 * 4294967296 + y0 := by
  obtain ⟨h1, h2, h3⟩ := h
  rw [Nat.add_mul, Nat.one_mul] at h3
  exact ⟨u * 4294967296 + d - q * (y1 * 4294967296 + y0), by omega, by omega⟩
/-- Where the search starts, the head being at least 2^31. -/
theorem DivAt.mul_fits {y0 q : Nat} (hq : q < 4294967296) (hy0 : y0 < 4294967296) : q * y0 < 18446744073709551616 := by
  have : q * y0 ≤ 4294967295 * 4294967295 := Nat.mul_le_mul (by omega) (by omega)
  omega

/-- Two digits make the quotient; the divisor went up by P. -/
theorem div_two {x lo y P Y u un q1 q0 v z : Nat} (hP : 0 < P) (hY : Y = y * P) (hu : u * 18446744073709551616 + un = (x * 18446744073709551616 + lo) * P)
    (h1 : q1 * Y + v = u * 4294967296 + un / 4294967296) (h0 : q0 * Y + z = v * 4294967296 + un % 4294967296) (hz : z < Y) :
    ∃ r, z = r * P ∧ r < y ∧ (q1 * 4294967296 + q0) * y + r = x * 18446744073709551616 + lo := by
  have e1 : (q1 * 4294967296 + q0) * Y + z = (x * 18446744073709551616 + lo) * P := by
    rw [Nat.add_mul, Nat.mul_right_comm, ← hu]
    clear hu hY
    obtain ⟨a, ha⟩ : ∃ a, a = q1 * Y := ⟨_, rfl⟩
    obtain ⟨b, hb⟩ : ∃ b, b = q0 * Y := ⟨_, rfl⟩
    rw [← ha] at h1 ⊢
    rw [← hb] at h0 ⊢
    clear ha hb
    omega
  subst hY
  rw [← Nat.mul_assoc] at e1
  obtain ⟨A, hA⟩ : ∃ A, A = (q1 * 4294967296 + q0) * y := ⟨_, rfl⟩
  obtain ⟨T, hT⟩ : ∃ T, T = x * 18446744073709551616 + lo := ⟨_, rfl⟩
  rw [← hA, ← hT] at e1
  rw [← hA, ← hT]
  clear hA hT h1 h0 hu
  have hle : A ≤ T := by
    refine Nat.le_of_mul_le_mul_right (c := P) ?_ hP
    omega
  obtain ⟨r, rfl⟩ := Nat.exists_eq_add_of_le hle
  rw [Nat.add_mul] at e1
  refine ⟨r, by omega, ?_, rfl⟩
  have : z = r * P := by omega
  rw [this] at hz
  exact Nat.lt_of_mul_lt_mul_right hz
/-- How far a word may go up. -/
theorem lead_up {y : Nat} (h0 : y ≠ 0) (h : y < 2 ^ 64) : bitLen y ≤ 64 ∧ 0 < bitLen y ∧ y * 2 ^ (64 - bitLen y) < 18446744073709551616 ∧ 9223372036854775808 ≤ y * 2 ^ (64 - bitLen y) := by
  have e : bitLen y = Nat.log2 y + 1 := by unfold bitLen; rw [if_neg h0]
  have h1 : Nat.log2 y < 64 := (Nat.log2_lt h0).2 h
  have h2 : y < 2 ^ (Nat.log2 y + 1) := Nat.lt_log2_self
  have h3 : 2 ^ Nat.log2 y ≤ y := Nat.log2_self_le h0
  have h4 := Nat.mul_lt_mul_of_pos_right h2 (Nat.two_pow_pos (64 - (Nat.log2 y + 1)))
  have h5 := Nat.mul_le_mul_right (2 ^ (64 - (Nat.log2 y + 1))) h3
  rw [← Nat.pow_add, show Nat.log2 y + 1 + (64 - (Nat.log2 y + 1)) = 64 by omega] at h4
  rw [← Nat.pow_add, show Nat.log2 y + (64 - (Nat.log2 y + 1)) = 63 by omega] at h5
  rw [e]
  exact ⟨by omega, by omega, by omega, by omega⟩
end Go.Proofs.Ytachdicdfhfoaaa
