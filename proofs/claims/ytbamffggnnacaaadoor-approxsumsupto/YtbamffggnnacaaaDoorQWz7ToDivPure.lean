/-
  QWz7ToDivPure: Wz7, DivPure, joined.
-/
import Derived.Test.YtbamffggnnacaaaDoorQWb7
import Derived.Test.YtbamffggnnacaaaDoorQWw7
import Derived.Test.YtbamffggnnacaaaDoorQZAdd
import Derived.Test.YtbamffggnnacaaaDoorQBitsToLen2

/- Wz7 -/
namespace Go.Proofs.YtbamffggnnacaaaDoor
open Go.RowKit
set_option linter.unusedVariables false

/-- The word of the float64 nearest to z * 2^n. -/
def zw (z n : Int) : Nat := fw (decide (z < 0)) (nbits z.natAbs n)
theorem fw_iv {n : Bool} {xs : List Int} {z : Int} (hx : WF xs) (h : iv n xs = z) (N : Int) : fw n (nbits (vn xs) N) = zw z N := by
  have hv := val_vn hx
  unfold zw
  have e : vn xs = z.natAbs := by
    have := iv_abs hx h
    omega
  rw [← e]
  rcases iv_sign hx h with ⟨q1, q2⟩ | ⟨q1, q2, q3⟩ | ⟨q1, q2, q3⟩
  · rw [q1, nbits_zero]; unfold fw; simp
  · rw [q2, decide_eq_true q3]
  · rw [q2, decide_eq_false (by omega)]
set_option maxHeartbeats 1600000 in
theorem near_z {w : World} {v : Value} {z : Int} {k : Nat} (h : Zi w v z k) (hT : Tab w) (hk : k ≤ 1099511627776) :
    Calls Tryd.prog 7 #[v] w fun e w' => e = .returned (.float .f64 (zw z 0)) ∧ Below w.heap.size w w' := by
  obtain ⟨n, xs, a, c, rfl, s0, z0, k0⟩ := h
  obtain ⟨W0, hW0⟩ : ∃ W0, w.alloc (duo (.bool n) (.slice a xs.length c)) = W0 := ⟨_, rfl⟩
  have b0 : Below w.heap.size w W0 := by rw [← hW0]; exact (Below.refl _ _).alloc (Nat.le_refl _) _
  have p0 : Duo W0 w.heap.size (.bool n) (.slice a xs.length c) := by rw [← hW0]; exact Duo.new w _ _
  have HC := hid (nearest_any (s0.now b0) (hT.now b0) (by omega) (n := 0) (by omega) (by omega) n)
  rw [fw_iv s0.1 z0] at HC
  have i0 := p0.c0
  have i1 := p0.c1
  rw [← hW0] at i0 i1
  have EW := hid hW0
  have B0 := hid b0
  clear s0 z0 p0 hW0 b0 hT
  go_enter Tryd.func7, Tryd.ntmps7
  go_wp2_with fail
  rw [EW.out]
  refine HC.out.mono ?_
  rintro e w1 ⟨rfl, b⟩
  have B1 := hid (below_step B0.out b)
  clear b i0 i1 EW
  go_wp2
  go_ret
  exact ⟨rfl, B1.out⟩
theorem rung_bits {r : Nat} (h : r < 2 ^ 63) : ∃ e c : Nat, r = e * 2 ^ 52 + c ∧ c < 2 ^ 53 ∧ (e = 0 ∨ 2 ^ 52 ≤ c) ∧ fv r = c * 2 ^ e ∧ e ≤ 2047 ∧ max ((r : Int) / 4503599627370496) 1 = (e : Int) + 1 := by
  by_cases q : r < 2 ^ 52
  · exact ⟨0, r, by omega, by omega, .inl rfl, by simpa using fv_at 0 r (by omega) (.inl rfl), by omega, by omega⟩
  · refine ⟨r / 2 ^ 52 - 1, 2 ^ 52 + r % 2 ^ 52, by omega, by omega, .inr (by omega), ?_, by omega, by omega⟩
    unfold fv; rw [if_neg q]
set_option maxHeartbeats 1600000 in
theorem parts_any {b : Nat} (h : b < 2 ^ 64) (w : World) : Calls Tryd.prog 41 #[.float .f64 b] w fun e' w' => ∃ e c : Nat, e' = .returned (.tuple #[.slice (some ⟨w.heap.size, 0, none⟩) 1 1, .int .i64 ((e : Int) - 1074)]) ∧ w' = w.alloc (.cells #[.int .u64 c] 37) ∧ c < 2 ^ 53 ∧ rg b = e * 2 ^ 52 + c ∧ (e = 0 ∨ 2 ^ 52 ≤ c) ∧ fv (rg b) = c * 2 ^ e ∧ e ≤ 2047 := by
  obtain ⟨e, c, h1, h2, h3, h4, h5, h6⟩ := rung_bits (rg_lt b)
  have hr := rg_lt b
  have k1 := fbits_run b
  have k3 := andNot_sign h
  have HR : Hid (rg b = e * 2 ^ 52 + c ∧ (e = 0 ∨ 2 ^ 52 ≤ c) ∧ fv (rg b) = c * 2 ^ e) := ⟨h1, h3, h4⟩
  have hge : (e : Int) * 4503599627370496 ≤ (rg b : Int) := by omega
  clear h3 h4 h1
  generalize rg b = r at *
  go_enter Tryd.func41, Tryd.ntmps41
  go_wp2
  go_ret2
  have e1 : (r : Int) - e * 4503599627370496 = c := by have := HR.out.1; omega
  refine ⟨e, c, ?_, ?_, h2, HR.out.1, HR.out.2.1, HR.out.2.2, h5⟩
  · rw [show ((e : Int) - 1074) = -1074 + (e : Int) by omega]; rfl
  · rw [e1]
end Go.Proofs.YtbamffggnnacaaaDoor

/- DivPure -/
namespace Go.Proofs.YtbamffggnnacaaaDoor
open Go.RowKit

/-- Where the search for a digit stands: q times the divisor's head and r are u; q is not too small. -/
def DivAt (y1 y0 u d q r : Nat) : Prop := q * y1 + r = u ∧ u * 4294967296 + d < (q + 1) * (y1 * 4294967296 + y0)
/-- The digit is found. -/
def DivIs (y1 y0 u d q : Nat) : Prop := q < 4294967296 ∧ q * (y1 * 4294967296 + y0) ≤ u * 4294967296 + d ∧ u * 4294967296 + d < (q + 1) * (y1 * 4294967296 + y0)

theorem mul_two (q y1 y0 : Nat) : q * (y1 * 4294967296 + y0) = q * y1 * 4294967296 + q * y0 := by rw [Nat.mul_add, Nat.mul_assoc]
theorem over_aux {B y1 y0 u d q r : Nat} (h1 : q * y1 + r = u) (ht : r * B + d < q * y0) : u * B + d < q * (y1 * B + y0) := by
  subst h1
  rw [Nat.mul_add, ← Nat.mul_assoc, Nat.add_mul]
  omega
theorem stop_aux {B y1 y0 u d q r : Nat} (h1 : q * y1 + r = u) (ht : q * y0 ≤ r * B + d) : q * (y1 * B + y0) ≤ u * B + d := by
  subst h1
  rw [Nat.mul_add, ← Nat.mul_assoc, Nat.add_mul]
  omega
theorem DivAt.start {y1 y0 u d : Nat} (hy : 0 < y1) (hd : d < 4294967296) : DivAt y1 y0 u d (u / y1) (u % y1) := by
  have h1 := Nat.div_add_mod u y1
  have h2 := Nat.mod_lt u hy
  rw [Nat.mul_comm] at h1
  refine ⟨h1, ?_⟩
  rw [mul_two, Nat.add_mul, Nat.one_mul]
  omega
theorem DivAt.over {y1 y0 u d q r : Nat} (h : DivAt y1 y0 u d q r) (hu : u < y1 * 4294967296 + y0) (hd : d < 4294967296) (ht : 4294967296 ≤ q ∨ r * 4294967296 + d < q * y0) :
    ∃ k, q = k + 1 ∧ DivAt y1 y0 u d k (r + y1) := by
  obtain ⟨h1, h2⟩ := h
  have h3 : u * 4294967296 + d < q * (y1 * 4294967296 + y0) := by
    rcases ht with ht | ht
    · obtain ⟨Y, hY⟩ : ∃ Y, Y = y1 * 4294967296 + y0 := ⟨_, rfl⟩
      rw [← hY] at hu ⊢
      have h5 := Nat.mul_le_mul_right Y ht
      obtain ⟨m, hm⟩ : ∃ m, m = q * Y := ⟨_, rfl⟩
      rw [← hm] at h5 ⊢
      have h6 : 4294967296 * (u + 1) ≤ 4294967296 * Y := Nat.mul_le_mul_left _ hu
      have h7 := Nat.le_trans h6 h5
      clear hm h2 h1 hY h5 h6 hu ht
      omega
    · exact over_aux h1 ht
  have h4 : q ≠ 0 := fun e => by subst e; simp at h3
  obtain ⟨k, rfl⟩ := Nat.exists_eq_succ_of_ne_zero h4
  refine ⟨k, rfl, ?_, h3⟩
  rw [Nat.succ_mul] at h1
  omega
theorem DivAt.small {y1 y0 u d q r : Nat} (h : DivAt y1 y0 u d q r) (hu : u < y1 * 4294967296 + y0) (hy0 : y0 < 4294967296) (hr : 4294967296 ≤ r) : DivIs y1 y0 u d q := by
  obtain ⟨h1, h2⟩ := h
  have hq : q < 4294967296 := by
    refine Nat.lt_of_not_le fun hq => ?_
    have := Nat.mul_le_mul_right y1 hq
    omega
  refine ⟨hq, stop_aux h1 ?_, h2⟩
  have h5 : q * y0 ≤ 4294967295 * 4294967295 := Nat.mul_le_mul (by omega) (by omega)
  exact Nat.le_trans h5 (by clear h5 h1 h2; omega)
theorem DivAt.stop {y1 y0 u d q r : Nat} (h : DivAt y1 y0 u d q r) (hq : q < 4294967296) (ht : q * y0 ≤ r * 4294967296 + d) : DivIs y1 y0 u d q := by
  obtain ⟨h1, h2⟩ := h
  exact ⟨hq, stop_aux h1 ht, h2⟩
theorem DivIs.rest {y1 y0 u d q : Nat} (h : DivIs y1 y0 u d q) : ∃ v, q * (y1 * 4294967296 + y0) + v = u * 4294967296 + d ∧ v < y1 * 4294967296 + y0 := by
  obtain ⟨h1, h2, h3⟩ := h
  rw [Nat.add_mul, Nat.one_mul] at h3
  exact ⟨u * 4294967296 + d - q * (y1 * 4294967296 + y0), by omega, by omega⟩
/-- Where the search starts, the head being at least 2^31. -/
theorem DivAt.mul_fits {y0 q : Nat} (hq : q < 4294967296) (hy0 : y0 < 4294967296) : q * y0 < 18446744073709551616 := by
  have : q * y0 ≤ 4294967295 * 4294967295 := Nat.mul_le_mul (by omega) (by omega)
  omega

/-- Two digits make the quotient; the divisor went up by P. -/
theorem div_two {x lo y P Y u un q1 q0 v z : Nat} (hP : 0 < P) (hY : Y = y * P) (hu : u * 18446744073709551616 + un = (x * 18446744073709551616 + lo) * P)
    (h1 : q1 * Y + v = u * 4294967296 + un / 4294967296) (h0 : q0 * Y + z = v * 4294967296 + un % 4294967296) (hz : z < Y) :
    ∃ r, z = r * P ∧ r < y ∧ (q1 * 4294967296 + q0) * y + r = x * 18446744073709551616 + lo := by
  have e1 : (q1 * 4294967296 + q0) * Y + z = (x * 18446744073709551616 + lo) * P := by
    rw [Nat.add_mul, Nat.mul_right_comm, ← hu]
    clear hu hY
    obtain ⟨a, ha⟩ : ∃ a, a = q1 * Y := ⟨_, rfl⟩
    obtain ⟨b, hb⟩ : ∃ b, b = q0 * Y := ⟨_, rfl⟩
    rw [← ha] at h1 ⊢
    rw [← hb] at h0 ⊢
    clear ha hb
    omega
  subst hY
  rw [← Nat.mul_assoc] at e1
  obtain ⟨A, hA⟩ : ∃ A, A = (q1 * 4294967296 + q0) * y := ⟨_, rfl⟩
  obtain ⟨T, hT⟩ : ∃ T, T = x * 18446744073709551616 + lo := ⟨_, rfl⟩
  rw [← hA, ← hT] at e1
  rw [← hA, ← hT]
  clear hA hT h1 h0 hu
  have hle : A ≤ T := by
    refine Nat.le_of_mul_le_mul_right (c := P) ?_ hP
    omega
  obtain ⟨r, rfl⟩ := Nat.exists_eq_add_of_le hle
  rw [Nat.add_mul] at e1
  refine ⟨r, by omega, ?_, rfl⟩
  have : z = r * P := by omega
  rw [this] at hz
  exact Nat.lt_of_mul_lt_mul_right hz
/-- How far a word may go up. -/
theorem lead_up {y : Nat} (h0 : y ≠ 0) (h : y < 2 ^ 64) : bitLen y ≤ 64 ∧ 0 < bitLen y ∧ y * 2 ^ (64 - bitLen y) < 18446744073709551616 ∧ 9223372036854775808 ≤ y * 2 ^ (64 - bitLen y) := by
  have e : bitLen y = Nat.log2 y + 1 := by unfold bitLen; rw [if_neg h0]
  have h1 : Nat.log2 y < 64 := (Nat.log2_lt h0).2 h
  have h2 : y < 2 ^ (Nat.log2 y + 1) := Nat.lt_log2_self
  have h3 : 2 ^ Nat.log2 y ≤ y := Nat.log2_self_le h0
  have h4 := Nat.mul_lt_mul_of_pos_right h2 (Nat.two_pow_pos (64 - (Nat.log2 y + 1)))
  have h5 := Nat.mul_le_mul_right (2 ^ (64 - (Nat.log2 y + 1))) h3
  rw [← Nat.pow_add, show Nat.log2 y + 1 + (64 - (Nat.log2 y + 1)) = 64 by omega] at h4
  rw [← Nat.pow_add, show Nat.log2 y + (64 - (Nat.log2 y + 1)) = 63 by omega] at h5
  rw [e]
  exact ⟨by omega, by omega, by omega, by omega⟩
end Go.Proofs.YtbamffggnnacaaaDoor
