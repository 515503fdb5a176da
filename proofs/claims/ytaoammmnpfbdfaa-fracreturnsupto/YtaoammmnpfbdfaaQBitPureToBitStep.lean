/-
  QBitPureToBitStep: BitPure, BitStep, joined.
-/
import Derived.Test.YtaoammmnpfbdfaaQPowerToStepDown

/- BitPure -/
namespace Go.Proofs.Ytaoammmnpfbdfaa
open Go.RowKit
set_option linter.unusedVariables false

theorem or_bit {z p : Nat} (hz : z % 2 ^ (p + 1) = 0) : z ||| 2 ^ p = z + 2 ^ p := by
  obtain ⟨q, hq⟩ := Nat.dvd_of_mod_eq_zero hz
  subst hq
  exact (Nat.two_pow_add_eq_or_of_lt (Nat.pow_lt_pow_right (by omega) (by omega)) q).symm
theorem bits_or_bit {z p : Nat} (hz : z % 2 ^ (p + 1) = 0) (hzw : z < 18446744073709551616) (hp : p < 64) : bits .or .u64 (z : Int) ((2 ^ p : Nat) : Int) = ((z + 2 ^ p : Nat) : Int) := by
  have h2 : 2 ^ p < 18446744073709551616 := Nat.lt_of_lt_of_le (Nat.pow_lt_pow_right (by omega) hp) (by decide : 2 ^ 64 ≤ 18446744073709551616)
  rw [bits_or_nat _ _ hzw h2, or_bit hz]
theorem bits_andNot_bit {z p : Nat} (hz : z % 2 ^ (p + 1) = 0) (hzw : z + 2 ^ p < 18446744073709551616) (hp : p < 64) : bits .andNot .u64 ((z + 2 ^ p : Nat) : Int) ((2 ^ p : Nat) : Int) = (z : Int) := by
  have h2 : 2 ^ p < 18446744073709551616 := by omega
  have h1 : (BitVec.ofInt 64 ((z + 2 ^ p : Nat) : Int)).toNat = z + 2 ^ p := by
    rw [BitVec.ofInt_natCast, BitVec.toNat_ofNat]; exact Nat.mod_eq_of_lt (by omega)
  have h3 : (BitVec.ofInt 64 ((2 ^ p : Nat) : Int)).toNat = 2 ^ p := by
    rw [BitVec.ofInt_natCast, BitVec.toNat_ofNat]; exact Nat.mod_eq_of_lt (by omega)
  have key : (BitVec.ofInt 64 ((z + 2 ^ p : Nat) : Int) &&& ~~~ BitVec.ofInt 64 ((2 ^ p : Nat) : Int)) = BitVec.ofNat 64 z := by
    apply BitVec.eq_of_getLsbD_eq
    intro i hi
    rw [BitVec.getLsbD_and, BitVec.getLsbD_not]
    simp only [BitVec.getLsbD, h1, h3, BitVec.toNat_ofNat]
    rw [← or_bit hz, Nat.testBit_or, Nat.mod_eq_of_lt (show z < 2 ^ 64 by omega)]
    by_cases hip : i = p
    · subst hip
      have : z.testBit i = false := by
        rw [Nat.testBit_eq_decide_div_mod_eq]
        obtain ⟨q, rfl⟩ := Nat.dvd_of_mod_eq_zero hz
        rw [Nat.pow_succ, Nat.mul_assoc, Nat.mul_div_cancel_left _ (Nat.two_pow_pos i)]
        simp
      simp [this, Nat.testBit_two_pow_self]
    · rw [Nat.testBit_two_pow_of_ne (by omega)]
      simp [hi]
  show IntKind.u64.wrap ((BitVec.ofInt 64 ((z + 2 ^ p : Nat) : Int) &&& ~~~ BitVec.ofInt 64 ((2 ^ p : Nat) : Int)).toNat : Int) = _
  rw [key, BitVec.toNat_ofNat, Nat.mod_eq_of_lt (show z < 2 ^ 64 by omega), IntKind.wrap_u64]
  omega
/-- The word in which bit j lies, all bits up to j being 0. -/
theorem word_low {R : List Int} (hR : WF R) {j N : Nat} (hj : j / 64 < R.length) (h : vn R = N * 2 ^ (j + 1)) : (R[j / 64]).toNat % 2 ^ (j % 64 + 1) = 0 := by
  have e : R = R.take (j / 64) ++ (R[j / 64] :: R.drop (j / 64 + 1)) := by rw [← List.drop_eq_getElem_cons hj, List.take_append_drop]
  have hl : (R.take (j / 64)).length = j / 64 := by simp; omega
  have hA := vn_lt (hR.take (j / 64))
  rw [hl] at hA
  have ev : vn R = vn (R.take (j / 64)) + 2 ^ (64 * (j / 64)) * ((R[j / 64]).toNat + 2 ^ 64 * vn (R.drop (j / 64 + 1))) := by
    conv => lhs; rw [e]
    rw [vn_append, hl]
    rfl
  generalize (R[j / 64]).toNat = z at *
  generalize vn (R.drop (j / 64 + 1)) = C at *
  generalize vn (R.take (j / 64)) = A at *
  have hs : 2 ^ (j + 1) = 2 ^ (64 * (j / 64)) * 2 ^ (j % 64 + 1) := by rw [← Nat.pow_add]; congr 1; omega
  have h64 : 2 ^ 64 = 2 ^ (j % 64 + 1) * 2 ^ (63 - j % 64) := by rw [← Nat.pow_add]; congr 1; omega
  rw [h, hs, Nat.mul_left_comm] at ev
  have hP := Nat.two_pow_pos (64 * (j / 64))
  generalize 2 ^ (64 * (j / 64)) = P at *
  generalize 2 ^ (j % 64 + 1) = Q at *
  have h0 : (P * (N * Q)) / P = (A + P * (z + 2 ^ 64 * C)) / P := by rw [ev]
  rw [Nat.mul_div_cancel_left _ hP, Nat.add_mul_div_left _ _ hP, Nat.div_eq_of_lt hA, Nat.zero_add, h64, Nat.mul_assoc] at h0
  have h1 : z = N * Q - Q * (2 ^ (63 - j % 64) * C) := by omega
  have h2 : (N * Q) % Q = 0 := Nat.mul_mod_left _ _
  rw [h0, Nat.add_mul_mod_self_left] at h2
  exact h2
end Go.Proofs.Ytaoammmnpfbdfaa

/- BitStep -/
namespace Go.Proofs.Ytaoammmnpfbdfaa
open Go.RowKit
set_option linter.unusedVariables false

theorem val_put : ∀ (xs : List Int) (i : Nat) (z : Int) (h : i < xs.length), val (xs.set i z) = val xs + (z - xs[i]) * pw i
  | [], i, z, h => absurd h (by simp)
  | x :: xs, 0, z, h => by simp [val, pw]; omega
  | x :: xs, i + 1, z, h => by
    have ih := val_put xs i z (by simpa using h)
    simp only [List.set_cons_succ, val, List.getElem_cons_succ, ih]
    rw [show pw (i + 1) = wB * pw i from rfl, Int.mul_add, ← Int.add_assoc]
    congr 1
    rw [Int.mul_left_comm]
/-- R holds the root's bits from j on. -/
def RootAt (r : Nat) (L : Nat) (j : Nat) (R : List Int) : Prop := R.length = L ∧ WF R ∧ vn R = r / 2 ^ j * 2 ^ j
theorem half_bit (r j : Nat) : r / 2 ^ j = 2 * (r / 2 ^ (j + 1)) + r / 2 ^ j % 2 := by
  rw [Nat.pow_succ, ← Nat.div_div_eq_div_mul]; omega
/-- The bit j put into its word: the word, the list, the number. -/
theorem RootAt.put {r L j : Nat} {R : List Int} (h : RootAt r L (j + 1) R) (hj : j / 64 < R.length) :
    ∃ z : Nat, R[j / 64] = (z : Int) ∧ z % 2 ^ (j % 64 + 1) = 0 ∧ z + 2 ^ (j % 64) < 18446744073709551616 ∧ WF (R.set (j / 64) ((z + 2 ^ (j % 64) : Nat) : Int)) ∧ vn (R.set (j / 64) ((z + 2 ^ (j % 64) : Nat) : Int)) = (2 * (r / 2 ^ (j + 1)) + 1) * 2 ^ j := by
  obtain ⟨h1, h2, h3⟩ := h
  have hw : IsW R[j / 64] := h2 _ (List.getElem_mem hj)
  unfold IsW wB at hw
  have hz := word_low h2 hj h3
  have hp : 2 ^ (j % 64 + 1) * 2 ^ (63 - j % 64) = 18446744073709551616 := by rw [← Nat.pow_add, show j % 64 + 1 + (63 - j % 64) = 64 by omega]
  have hP := Nat.two_pow_pos (j % 64)
  have hlt : R[j / 64].toNat + 2 ^ (j % 64) < 18446744073709551616 := by
    obtain ⟨q, hq⟩ := Nat.dvd_of_mod_eq_zero hz
    have hlt0 : R[j / 64].toNat < 18446744073709551616 := by omega
    rw [hq] at hlt0 ⊢
    rw [← hp] at hlt0 ⊢
    have hq2 : q < 2 ^ (63 - j % 64) := Nat.lt_of_mul_lt_mul_left hlt0
    have := Nat.mul_le_mul_left (2 ^ (j % 64 + 1)) hq2
    rw [Nat.mul_succ] at this
    rw [Nat.pow_succ] at this ⊢
    omega
  have hwf : WF (R.set (j / 64) ((R[j / 64].toNat + 2 ^ (j % 64) : Nat) : Int)) := h2.set _ (by unfold IsW wB; omega)
  refine ⟨R[j / 64].toNat, by omega, hz, hlt, hwf, ?_⟩
  have hv := val_put R (j / 64) ((R[j / 64].toNat + 2 ^ (j % 64) : Nat) : Int) hj
  rw [val_vn hwf, val_vn h2, show ((R[j / 64].toNat + 2 ^ (j % 64) : Nat) : Int) - R[j / 64] = ((2 ^ (j % 64) : Nat) : Int) by omega] at hv
  have hpw : pw (j / 64) = ((2 ^ (64 * (j / 64)) : Nat) : Int) := by rw [pw_pow]; push_cast; rfl
  rw [hpw, ← Int.natCast_mul, ← Int.natCast_add] at hv
  have hv2 := Int.ofNat.inj hv
  rw [hv2, h3, ← Nat.pow_add, show j % 64 + 64 * (j / 64) = j by omega, Nat.pow_succ, Nat.add_mul, Nat.one_mul]
  congr 1
  rw [Nat.mul_comm (2 ^ j) 2, ← Nat.mul_assoc, Nat.mul_comm (_ / _) 2]
/-- The bit is in the root exactly if the list with it is not above the root. -/
theorem bit_in {r j : Nat} (h : (2 * (r / 2 ^ (j + 1)) + 1) * 2 ^ j ≤ r) : (2 * (r / 2 ^ (j + 1)) + 1) = r / 2 ^ j := by
  have h1 := (Nat.le_div_iff_mul_le (Nat.two_pow_pos j)).2 h
  have := half_bit r j
  omega
theorem bit_out {r j : Nat} (h : r < (2 * (r / 2 ^ (j + 1)) + 1) * 2 ^ j) : r / 2 ^ (j + 1) * 2 ^ (j + 1) = r / 2 ^ j * 2 ^ j := by
  have h1 := (Nat.div_lt_iff_lt_mul (Nat.two_pow_pos j)).2 h
  have h2 := half_bit r j
  have h3 : r / 2 ^ j = 2 * (r / 2 ^ (j + 1)) := by omega
  rw [h3, Nat.pow_succ, Nat.mul_comm (2 ^ j) 2, ← Nat.mul_assoc, Nat.mul_comm (_ / _) 2]
theorem RootAt.zero {r L P : Nat} (h : r < 2 ^ P) : RootAt r L P (List.replicate L 0) := by
  refine ⟨by simp, fun x hx => by rw [List.eq_of_mem_replicate hx]; unfold IsW wB; omega, ?_⟩
  rw [Nat.div_eq_of_lt h, Nat.zero_mul]
  induction L with
  | zero => rfl
  | succ n ih => rw [List.replicate_succ]; show (0 : Int).toNat + _ * _ = 0; rw [ih]; rfl
/-- The k-th power tells on which side of the root a number lies. -/
theorem pow_above {x r a : Int} {k : Nat} (hr : IsRoot r a k) (h : r < x) : a < x ^ k :=
  Int.lt_of_lt_of_le hr.2.2 (pow_mono3 (by have := hr.1; omega) (by omega) k)
theorem pow_not_above {x r a : Int} {k : Nat} (hr : IsRoot r a k) (h0 : 0 ≤ x) (h : x ≤ r) : x ^ k ≤ a :=
  Int.le_trans (pow_mono3 h0 h k) hr.2.1
end Go.Proofs.Ytaoammmnpfbdfaa
