/-
  Fo7: what the words of a float64 stand for, and their order.
-/
import Derived.Test.YtbamffggnnacaaaDoorQFl7
import Derived.Laws.FloatArith
namespace Go.Proofs.YtbamffggnnacaaaDoor
set_option linter.unusedVariables false

/-- The rung of a word, and its sign. -/
def rg (b : Nat) : Nat := b % 2 ^ 63
def ng (b : Nat) : Bool := b / 2 ^ 63 % 2 == 1
/-- Finite. -/
def Fin7 (b : Nat) : Prop := rg b < 2047 * 2 ^ 52
instance (b : Nat) : Decidable (Fin7 b) := inferInstanceAs (Decidable (_ < _))
/-- What it denotes, in steps of 2^-1074. -/
def sv (b : Nat) : Int := if ng b = true then -(fv (rg b) : Int) else (fv (rg b) : Int)

theorem read_fin {b : Nat} (h : Fin7 b) : ∃ m i : Nat, Ieee.double.read b = .number (ng b) m ((i : Int) - 1074) ∧ m * 2 ^ i = fv (rg b) := by
  unfold Fin7 at h
  have e : Ieee.double.read b = (if rg b < 2 ^ 52 then Ieee.Datum.number (ng b) (rg b) (-1074)
    else if rg b < 2047 * 2 ^ 52 then .number (ng b) (2 ^ 52 + rg b % 2 ^ 52) (-1074 + (rg b / 2 ^ 52 - 1 : Nat))
    else if rg b = 2047 * 2 ^ 52 then .infinity (ng b) else .nan (ng b) (rg b - 2047 * 2 ^ 52)) := rfl
  rw [e]
  by_cases h1 : rg b < 2 ^ 52
  · exact ⟨rg b, 0, by rw [if_pos h1]; rfl, by unfold fv; rw [if_pos h1]; simp⟩
  · refine ⟨2 ^ 52 + rg b % 2 ^ 52, rg b / 2 ^ 52 - 1, ?_, by unfold fv; rw [if_neg h1]⟩
    rw [if_neg h1, if_pos h, show (-1074 : Int) + (rg b / 2 ^ 52 - 1 : Nat) = ((rg b / 2 ^ 52 - 1 : Nat) : Int) - 1074 by omega]
theorem read_not {b : Nat} (h : ¬ Fin7 b) : Ieee.double.read b = (if rg b = 2047 * 2 ^ 52 then Ieee.Datum.infinity (ng b) else .nan (ng b) (rg b - 2047 * 2 ^ 52)) := by
  unfold Fin7 at h
  have e : Ieee.double.read b = (if rg b < 2 ^ 52 then Ieee.Datum.number (ng b) (rg b) (-1074)
    else if rg b < 2047 * 2 ^ 52 then .number (ng b) (2 ^ 52 + rg b % 2 ^ 52) (-1074 + (rg b / 2 ^ 52 - 1 : Nat))
    else if rg b = 2047 * 2 ^ 52 then .infinity (ng b) else .nan (ng b) (rg b - 2047 * 2 ^ 52)) := rfl
  rw [e, if_neg (by omega), if_neg h]
theorem read_inf {b : Nat} (h : rg b = 2047 * 2 ^ 52) : Ieee.double.read b = .infinity (ng b) := by
  rw [read_not (by unfold Fin7; omega), if_pos h]
theorem read_nan {b : Nat} (h : 2047 * 2 ^ 52 < rg b) : ∃ t, Ieee.double.read b = .nan (ng b) t := by
  rw [read_not (by unfold Fin7; omega), if_neg (by omega)]
  exact ⟨_, rfl⟩

theorem cmp_lt {a b : Int} (h : a < b) : compare a b = .lt := by
  show compareOfLessAndEq a b = _
  unfold compareOfLessAndEq; rw [if_pos h]
theorem cmp_eq {a b : Int} (h : a = b) : compare a b = .eq := by
  show compareOfLessAndEq a b = _
  unfold compareOfLessAndEq; rw [if_neg (by omega), if_pos h]
theorem cmp_gt {a b : Int} (h : b < a) : compare a b = .gt := by
  show compareOfLessAndEq a b = _
  unfold compareOfLessAndEq; rw [if_neg (by omega), if_neg (by omega)]
theorem compare_scale (a b : Int) (k : Nat) : compare (a * 2 ^ k) (b * 2 ^ k) = compare a b := by
  have hk : (0 : Int) < 2 ^ k := Int.pow_pos (by omega)
  rcases Int.lt_trichotomy a b with h | h | h
  · rw [cmp_lt h, cmp_lt (Int.mul_lt_mul_of_pos_right h hk)]
  · subst h; rw [cmp_eq rfl, cmp_eq rfl]
  · rw [cmp_gt h, cmp_gt (Int.mul_lt_mul_of_pos_right h hk)]
theorem signed_mul (s : Bool) (m i k : Nat) (h : k ≤ i) : Ieee.signed s m (i - k) * 2 ^ k = if s = true then -((m * 2 ^ i : Nat) : Int) else ((m * 2 ^ i : Nat) : Int) := by
  have e : m * 2 ^ i = m * 2 ^ (i - k) * 2 ^ k := by rw [Nat.mul_assoc, ← Nat.pow_add, show i - k + k = i by omega]
  rw [e]
  unfold Ieee.signed
  rw [Nat.shiftLeft_eq]
  cases s
  · simp
  · simp [Int.neg_mul]
/-- The order of finite ones is that of what they denote. -/
theorem order_fin {x y : Nat} (hx : Fin7 x) (hy : Fin7 y) : Ieee.double.order x y = some (compare (sv x) (sv y)) := by
  obtain ⟨m, i, e1, f1⟩ := read_fin hx
  obtain ⟨n, j, e2, f2⟩ := read_fin hy
  unfold Ieee.Format.order
  rw [e1, e2]
  unfold sv
  rw [← f1, ← f2]
  show some (compare (Ieee.signed (ng x) m (((i : Int) - 1074) - min ((i : Int) - 1074) ((j : Int) - 1074)).toNat) (Ieee.signed (ng y) n (((j : Int) - 1074) - min ((i : Int) - 1074) ((j : Int) - 1074)).toNat)) = _
  rw [show (((i : Int) - 1074) - min ((i : Int) - 1074) ((j : Int) - 1074)).toNat = i - min i j by omega, show (((j : Int) - 1074) - min ((i : Int) - 1074) ((j : Int) - 1074)).toNat = j - min i j by omega]
  rw [← compare_scale _ _ (min i j), signed_mul _ _ _ _ (by omega), signed_mul _ _ _ _ (by omega)]
theorem order_nan_l {x y : Nat} (hx : 2047 * 2 ^ 52 < rg x) : Ieee.double.order x y = none := by
  obtain ⟨t, e⟩ := read_nan hx
  unfold Ieee.Format.order
  rw [e]; rfl
theorem order_nan_r {x y : Nat} (hy : 2047 * 2 ^ 52 < rg y) : Ieee.double.order x y = none := by
  obtain ⟨t, e⟩ := read_nan hy
  unfold Ieee.Format.order
  rw [e]
  cases Ieee.double.read x <;> rfl
theorem order_inf_l {x y : Nat} (hx : rg x = 2047 * 2 ^ 52) (hy : Fin7 y) : Ieee.double.order x y = some (if ng x = true then .lt else .gt) := by
  obtain ⟨n, j, e2, f2⟩ := read_fin hy
  unfold Ieee.Format.order
  rw [read_inf hx, e2]; rfl
theorem order_inf_r {x y : Nat} (hx : Fin7 x) (hy : rg y = 2047 * 2 ^ 52) : Ieee.double.order x y = some (if ng y = true then .gt else .lt) := by
  obtain ⟨n, j, e2, f2⟩ := read_fin hx
  unfold Ieee.Format.order
  rw [read_inf hy, e2]; rfl
theorem order_inf_inf {x : Nat} (hx : rg x = 2047 * 2 ^ 52) : Ieee.double.order x x = some .eq := by
  unfold Ieee.Format.order
  rw [read_inf hx]
  show some (compare (ng x).toNat (ng x).toNat) = _
  cases ng x <;> rfl

/-- f == f just where it is a number. -/
theorem order_self (x : Nat) : (Ieee.double.order x x == some .eq) = decide (rg x ≤ 2047 * 2 ^ 52) := by
  rcases Nat.lt_trichotomy (rg x) (2047 * 2 ^ 52) with h | h | h
  · rw [order_fin h h, cmp_eq rfl]; simp; omega
  · rw [order_inf_inf h]; simp; omega
  · rw [order_nan_l h]; simp; omega

/-- f - f is 0 where f is finite; else it has no answer. -/
theorem sub_self_fin {x : Nat} (h : Fin7 x) : Ieee.double.sub x x = some 0 := by
  obtain ⟨m, i, e1, f1⟩ := read_fin h
  unfold Ieee.Format.sub
  rw [e1]
  show Option.map _ (some (Ieee.Datum.number (if Ieee.signed (ng x) m (((i : Int) - 1074) - min ((i : Int) - 1074) ((i : Int) - 1074)).toNat + Ieee.signed (!(ng x)) m (((i : Int) - 1074) - min ((i : Int) - 1074) ((i : Int) - 1074)).toNat = 0 then (ng x && !(ng x)) else decide (Ieee.signed (ng x) m (((i : Int) - 1074) - min ((i : Int) - 1074) ((i : Int) - 1074)).toNat + Ieee.signed (!(ng x)) m (((i : Int) - 1074) - min ((i : Int) - 1074) ((i : Int) - 1074)).toNat < 0)) (Ieee.signed (ng x) m (((i : Int) - 1074) - min ((i : Int) - 1074) ((i : Int) - 1074)).toNat + Ieee.signed (!(ng x)) m (((i : Int) - 1074) - min ((i : Int) - 1074) ((i : Int) - 1074)).toNat).natAbs (min ((i : Int) - 1074) ((i : Int) - 1074)))) = _
  have z : ∀ k, Ieee.signed (ng x) m k + Ieee.signed (!(ng x)) m k = 0 := by
    intro k
    unfold Ieee.signed
    cases ng x <;> simp <;> omega
  rw [z, if_pos rfl, show (ng x && !(ng x)) = false by cases ng x <;> rfl]
  rfl
theorem sub_self_not {x : Nat} (h : ¬ Fin7 x) : Ieee.double.sub x x = none := by
  unfold Ieee.Format.sub
  rw [read_not h]
  split
  · cases ng x <;> rfl
  · cases ng x <;> rfl
/-- f == 0, f < 0. -/
theorem fin_zero : Fin7 0 := by decide
theorem sv_zero : sv 0 = 0 := by decide
theorem sv_eq_zero {x : Nat} : sv x = 0 ↔ rg x = 0 := by
  have h := @fv_eq_zero (rg x)
  unfold sv
  split <;> omega
theorem order_zero_eq (x : Nat) : (Ieee.double.order x 0 == some .eq) = decide (rg x = 0) := by
  rcases Nat.lt_trichotomy (rg x) (2047 * 2 ^ 52) with h | h | h
  · rw [order_fin h fin_zero, sv_zero]
    rcases Int.lt_trichotomy (sv x) 0 with q | q | q
    · rw [cmp_lt q]
      have : rg x ≠ 0 := fun e => by have := sv_eq_zero.2 e; omega
      simp [this]
    · rw [cmp_eq q]; simp [sv_eq_zero.1 q]
    · rw [cmp_gt q]
      have : rg x ≠ 0 := fun e => by have := sv_eq_zero.2 e; omega
      simp [this]
  · rw [order_inf_l h fin_zero]
    have : rg x ≠ 0 := by omega
    cases ng x <;> simp [this]
  · rw [order_nan_l h]
    have : rg x ≠ 0 := by omega
    simp [this]
theorem order_zero_lt {x : Nat} (h : Fin7 x) : (Ieee.double.order x 0 == some .lt) = (ng x && decide (rg x ≠ 0)) := by
  have hz := @fv_eq_zero (rg x)
  rw [order_fin h fin_zero, sv_zero]
  unfold sv
  cases hn : ng x
  · rw [if_neg (by simp)]
    by_cases e : (fv (rg x) : Int) = 0
    · rw [cmp_eq e]; rfl
    · rw [cmp_gt (by omega)]; rfl
  · rw [if_pos rfl]
    by_cases e : rg x = 0
    · rw [hz.2 e, cmp_eq (by omega)]; simp [e]
    · rw [cmp_lt (by have := fun q => e (hz.1 q); omega)]; simp [e]
/-- Words by sign and rung. -/
theorem rg_lt (b : Nat) : rg b < 2 ^ 63 := Nat.mod_lt _ (by decide)
theorem word_parts {b : Nat} (h : b < 2 ^ 64) : b = (if ng b = true then 2 ^ 63 else 0) + rg b := by
  unfold ng rg
  by_cases q : b < 2 ^ 63
  · rw [if_neg (by simp; omega)]; omega
  · rw [if_pos (by simp; omega)]; omega
theorem rg_pos {r : Nat} (h : r < 2 ^ 63) : rg r = r ∧ ng r = false := by
  unfold rg ng
  exact ⟨by omega, by simp; omega⟩
theorem rg_neg {r : Nat} (h : r < 2 ^ 63) : rg (2 ^ 63 + r) = r ∧ ng (2 ^ 63 + r) = true := by
  unfold rg ng
  exact ⟨by omega, by simp; omega⟩
end Go.Proofs.YtbamffggnnacaaaDoor
