/-
  QFt7ToWf7: Ft7, Wf7, joined.
-/
import Derived.Test.YtbamffggnnacaaaDoorQFn7
import Derived.Test.YtbamffggnnacaaaDoorQFo7
import Derived.Test.YtbamffggnnacaaaDoorQOpenTab7ToCarry
import Derived.Laws.BitsAllLaws
import Derived.WalkLawsBesides

/- Ft7 -/
namespace Go.Proofs.YtbamffggnnacaaaDoor
set_option linter.unusedVariables false

theorem log2_shl {m : Nat} (h : m ≠ 0) (k : Nat) : (m <<< k).log2 = m.log2 + k := by
  have h1 := bl_shift h k
  unfold bitLen at h1
  have h2 : m * 2 ^ k ≠ 0 := Nat.mul_ne_zero h (by have := Nat.two_pow_pos k; omega)
  rw [if_neg h2, if_neg h] at h1
  rw [Nat.shiftLeft_eq]; omega
/-- The model's cut is the rounding. -/
theorem cut_even (neg : Bool) {m : Nat} (h : m ≠ 0) (p : Int) : Ieee.Toward.even.cut neg (m <<< (-p).toNat) p.toNat = rnd m p := by
  unfold Ieee.Toward.cut
  rw [log2_shl h]
  simp only [Nat.shiftLeft_eq, Nat.one_mul]
  by_cases hp : p ≤ 0
  · unfold rnd
    rw [if_pos hp, show p.toNat = 0 by omega, Nat.zero_min, Nat.pow_zero, Nat.div_one, Nat.mod_one]
    simp
  · unfold rnd
    rw [if_neg hp, show (-p).toNat = 0 by omega, Nat.pow_zero, Nat.mul_one, Nat.add_zero]
    by_cases hd : p.toNat ≤ m.log2 + 2
    · rw [Nat.min_eq_left hd]
      congr 1
      by_cases c1 : 2 ^ p.toNat < 2 * (m % 2 ^ p.toNat) ∨ (2 ^ p.toNat = 2 * (m % 2 ^ p.toNat) ∧ m / 2 ^ p.toNat % 2 = 1)
      · rw [if_pos c1]
        rcases c1 with q | q
        · rw [decide_eq_true q]; rfl
        · rw [← q.1, q.2]; simp
      · rw [if_neg c1]
        have n1 : ¬ 2 ^ p.toNat < 2 * (m % 2 ^ p.toNat) := fun q => c1 (.inl q)
        rw [decide_eq_false n1]
        by_cases e : 2 ^ p.toNat = 2 * (m % 2 ^ p.toNat)
        · have n2 : m / 2 ^ p.toNat % 2 = 0 := by have := fun q => c1 (.inr ⟨e, q⟩); omega
          rw [n2]; simp
        · rw [beq_false_of_ne e]; rfl
    · rw [Nat.min_eq_right (by omega)]
      have hlt : m < 2 ^ (m.log2 + 1) := Nat.lt_log2_self
      have e2 : 2 ^ (m.log2 + 2) = 2 * 2 ^ (m.log2 + 1) := by rw [Nat.pow_succ, Nat.mul_comm]
      have hle : 2 ^ (m.log2 + 2) ≤ 2 ^ p.toNat := Nat.pow_le_pow_right (by omega) (by omega)
      have d1 : m / 2 ^ (m.log2 + 2) = 0 := Nat.div_eq_of_lt (by omega)
      have d2 : m / 2 ^ p.toNat = 0 := Nat.div_eq_of_lt (by omega)
      have d3 : m % 2 ^ (m.log2 + 2) = m := Nat.mod_eq_of_lt (by omega)
      have d4 : m % 2 ^ p.toNat = m := Nat.mod_eq_of_lt (by omega)
      rw [d1, d2, d3, d4]
      rw [if_neg (by omega), decide_eq_false (by omega), beq_false_of_ne (by omega)]
      rfl
/-- The model's nearest. -/
theorem nearest_eq (neg : Bool) (m : Nat) (n : Int) : Ieee.double.nearest neg m n = (if neg = true then 2 ^ 63 else 0) + nbits m n := by
  have hw : ∀ r, Ieee.double.word neg r = (if neg = true then 2 ^ 63 else 0) + r := by
    intro r
    unfold Ieee.Format.word
    cases neg
    · simp
    · rfl
  unfold Ieee.Format.nearest
  by_cases h : m = 0
  · rw [if_pos h, h, nbits_zero, hw]
  rw [if_neg h, hw]
  congr 1
  have hb : (bitLen m : Int) = (m.log2 : Int) + 1 := by unfold bitLen; rw [if_neg h]; rfl
  have hu : max (n + (m.log2 : Int) - 52) (-1074) = unitOf m n := by unfold unitOf; rw [hb]; congr 1; omega
  show min ((max (n + (m.log2 : Int) - 52) (-1074) - -1074).toNat * 2 ^ 52 + Ieee.Toward.even.cut neg (m <<< (n - max (n + (m.log2 : Int) - 52) (-1074)).toNat) (max (n + (m.log2 : Int) - 52) (-1074) - n).toNat) (2047 * 2 ^ 52) = _
  rw [hu, show n - unitOf m n = -(unitOf m n - n) by omega, cut_even neg h, show unitOf m n - -1074 = unitOf m n + 1074 by omega]
  by_cases hbig : 1024 < (bitLen m : Int) + n
  · have hn : nbits m n = 2047 * 2 ^ 52 := by unfold nbits; rw [if_neg h, if_pos hbig]
    rw [hn]
    have hu2 : unitOf m n = (bitLen m : Int) + n - 53 := by unfold unitOf; omega
    obtain ⟨k1, k2⟩ := kept h rfl (show (bitLen m : Int) - 53 ≤ unitOf m n - n by omega)
    have hr : 2 ^ 52 ≤ rnd m (unitOf m n - n) := by
      unfold rnd
      by_cases hp : unitOf m n - n ≤ 0
      · rw [if_pos hp]; exact (k1 hp).2 (by omega)
      · rw [if_neg hp]; exact Nat.le_trans ((k2 (by omega)).2 (by omega)) (Nat.le_add_right _ _)
    exact Nat.min_eq_right (by omega)
  · have hn : nbits m n = (unitOf m n + 1074).toNat * 2 ^ 52 + rnd m (unitOf m n - n) := by unfold nbits; rw [if_neg h, if_neg hbig]
    rw [← hn]
    exact Nat.min_eq_left (nbits_le m n)

/-- S * 2^n, without what is behind the point. -/
def mv (S : Nat) (n : Int) : Nat := if n < 0 then S / 2 ^ (-n).toNat else S * 2 ^ n.toNat
theorem mv_shift (c e : Nat) (n : Int) : mv (c * 2 ^ e) n = mv c (e + n) := by
  unfold mv
  by_cases h1 : n < 0
  · rw [if_pos h1]
    by_cases h2 : (e : Int) + n < 0
    · rw [if_pos h2]
      have : (-n).toNat = (-((e : Int) + n)).toNat + e := by omega
      rw [this, Nat.pow_add, Nat.mul_div_mul_right _ _ (Nat.two_pow_pos _)]
    · rw [if_neg h2]
      have : e = ((e : Int) + n).toNat + (-n).toNat := by omega
      rw [this, Nat.pow_add, ← Nat.mul_assoc, Nat.mul_div_cancel _ (Nat.two_pow_pos _)]
      congr 2; omega
  · rw [if_neg h1, if_neg (by omega), Nat.mul_assoc, ← Nat.pow_add]
    congr 2; omega
theorem mv_zero (n : Int) : mv 0 n = 0 := by unfold mv; split <;> simp
theorem wv_mv (r : Nat) : wv r = mv (fv r) (-1074) := by
  unfold wv mv
  rw [if_pos (by omega), show (-(-1074 : Int)).toNat = E7 from rfl]
/-- Without what is behind the point it is a float64. -/
theorem trunc_fv {r : Nat} (h : r < 2047 * 2 ^ 52) : fv (nbits (wv r) 0) = wv r * 2 ^ E7 ∧ nbits (wv r) 0 < 2047 * 2 ^ 52 := by
  obtain ⟨e, c, h1, h2, h3, h4⟩ := rung_form r
  have hw : wv r = mv c (e - 1074) := by
    rw [wv_mv, h4, mv_shift]; congr 1
  by_cases he : e < 1074
  · refine near_small ?_
    rw [hw]; unfold mv
    rw [if_pos (by omega)]
    exact Nat.le_trans (Nat.div_le_self _ _) (Nat.le_of_lt h2)
  · have hv : fv r = wv r * 2 ^ E7 := by
      rw [hw, h4]; unfold mv
      rw [if_neg (by omega), Nat.mul_assoc, ← Nat.pow_add]
      congr 2; show e = _ + 1074; omega
    have hn : nbits (wv r) 0 = r := by
      have := nbits_shift (wv r) E7 0
      rw [← this, ← hv]; exact nbits_fv h
    rw [hn]; exact ⟨hv, h⟩
/-- The model's rounding toward zero. -/
theorem cut_zero (neg : Bool) (n d : Nat) : Ieee.Toward.zero.cut neg n d = n / 2 ^ d := by
  unfold Ieee.Toward.cut
  simp only [Nat.shiftLeft_eq, Nat.one_mul, Bool.toNat_false, Nat.add_zero]
  by_cases hd : d ≤ n.log2 + 2
  · rw [Nat.min_eq_left hd]
  · rw [Nat.min_eq_right (by omega)]
    have hlt : n < 2 ^ (n.log2 + 1) := Nat.lt_log2_self
    have h2 : 2 ^ (n.log2 + 1) ≤ 2 ^ (n.log2 + 2) := Nat.pow_le_pow_right (by omega) (by omega)
    have h3 : 2 ^ (n.log2 + 2) ≤ 2 ^ d := Nat.pow_le_pow_right (by omega) (by omega)
    rw [Nat.div_eq_of_lt (by omega), Nat.div_eq_of_lt (by omega)]
theorem integral_fin {b : Nat} (h : Fin7 b) : Ieee.double.write ((Ieee.double.read b).integral .zero) = (if ng b = true then 2 ^ 63 else 0) + nbits (wv (rg b)) 0 := by
  obtain ⟨m, i, e1, f1⟩ := read_fin h
  rw [e1]
  show Ieee.double.nearest (ng b) (Ieee.Toward.zero.cut (ng b) (m <<< ((i : Int) - 1074).toNat) (-((i : Int) - 1074)).toNat) 0 = _
  rw [nearest_eq, cut_zero]
  congr 2
  rw [wv_mv, ← f1, mv_shift, Nat.shiftLeft_eq]
  unfold mv
  by_cases hi : (i : Int) + -1074 < 0
  · rw [if_pos hi, show ((i : Int) - 1074).toNat = 0 by omega, Nat.pow_zero, Nat.mul_one]
    congr 2
  · rw [if_neg hi, show (-((i : Int) - 1074)).toNat = 0 by omega, Nat.pow_zero, Nat.div_one]
    congr 2
end Go.Proofs.YtbamffggnnacaaaDoor

/- Wf7 -/
namespace Go.Proofs.YtbamffggnnacaaaDoor
open Go.RowKit
set_option linter.unusedVariables false

theorem fbits_run (b : Nat) (w : World) : (callFunc 15 #[.float .f64 b]).run Tryd.prog w = .ok (.value (.int .u64 b)) w := by
  rw [run_callFunc_extern Tryd.func15 (by kernel_rfl) (by kernel_rfl) (by kernel_rfl) (e := Extern.MathFloatBits.float64bits) (by kernel_rfl)]
  rfl
theorem ffrom_run (b : Nat) (w : World) : (callFunc 18 #[.int .u64 b]).run Tryd.prog w = .ok (.value (.float .f64 b)) w := by
  rw [run_callFunc_extern Tryd.func18 (by kernel_rfl) (by kernel_rfl) (by kernel_rfl) (e := Extern.MathFloatBits.float64frombits) (by kernel_rfl)]
  rfl
theorem andNot_sign {b : Nat} (h : b < 2 ^ 64) : bits .andNot .u64 (b : Int) 9223372036854775808 = (rg b : Int) := by
  have := u64_andNot_nat b 9223372036854775808 (by omega) (by omega)
  rw [show ((9223372036854775808 : Nat) : Int) = 9223372036854775808 from rfl] at this
  rw [this, show (18446744073709551615 - 9223372036854775808 : Nat) = 2 ^ 63 - 1 from rfl, Nat.and_two_pow_sub_one_eq_mod]
  rfl

/-- A not-a-number. -/
def isN (b : Nat) : Bool := decide (2047 * 2 ^ 52 < rg b)
theorem neq_self (b : Nat) : (FloatKind.f64.format.order b b != some .eq) = isN b := by
  have h := order_self b
  show (!(Ieee.double.order b b == some .eq)) = _
  rw [h]; unfold isN
  by_cases q : rg b ≤ 2047 * 2 ^ 52
  · first | (simp [q]; done) | (simp [q]; omega)
  · first | (simp [q]; done) | (simp [q]; omega)
set_option maxHeartbeats 800000 in
theorem isNaN_f (b : Nat) (w : World) : Calls Tryd.prog 35 #[.float .f64 b] w fun e w' => e = .returned (.bool (isN b)) ∧ w' = w := by
  go_enter Tryd.func35, Tryd.ntmps35
  go_wp2
  go_ret
  exact ⟨by rw [neq_self]; rfl, rfl⟩
set_option maxHeartbeats 800000 in
theorem cisNaN_f (b : Nat) (w : World) : Calls Tryd.prog 54 #[.float .f64 b] w fun e w' => e = .returned (.bool (isN b)) ∧ w' = w := by
  go_enter Tryd.func54, Tryd.ntmps54
  go_wp2
  go_ret
  exact ⟨by rw [neq_self]; rfl, rfl⟩
set_option maxHeartbeats 800000 in
theorem abs_f {b : Nat} (h : b < 2 ^ 64) (w : World) : Calls Tryd.prog 31 #[.float .f64 b] w fun e w' => e = .returned (.float .f64 (rg b)) ∧ w' = w := by
  have k1 := fbits_run b
  have k2 := ffrom_run (rg b)
  have k3 := andNot_sign h
  go_enter Tryd.func31, Tryd.ntmps31
  go_wp2_with (simp only [k1, k2, k3])
  go_ret
  exact ⟨rfl, rfl⟩
end Go.Proofs.YtbamffggnnacaaaDoor
