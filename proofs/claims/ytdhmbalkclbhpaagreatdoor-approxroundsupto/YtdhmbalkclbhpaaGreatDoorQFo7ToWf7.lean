/-
  QFo7ToWf7: Fo7, Ft7, Wf7, joined.
-/
import Derived.Test.YtdhmbalkclbhpaaGreatDoorQLess6ToFl7
import Derived.Laws.FloatArith
import Derived.Test.YtdhmbalkclbhpaaGreatDoorQFn7
import Derived.Test.YtdhmbalkclbhpaaGreatDoorQCarryToMade
import Derived.Laws.BitsAllLaws
import Derived.WalkLawsBesides

/- Fo7 -/
namespace Go.Proofs.YtdhmbalkclbhpaaGreatDoor
set_option linter.unusedVariables false

/-- The rung of a word, and its sign. -/
def rg (b : Nat) : Nat := b % 2 ^ 63
def ng (b : Nat) : Bool := b / 2 ^ 63 % 2 == 1
/-- Finite. -/
def Fin7 (b : Nat) : Prop := rg b < 2047 * 2 ^ 52
instance (b : Nat) : Decidable (Fin7 b) := inferInstanceAs (Decidable (_ < _))
/-- What it denotes, in steps of 2^-1074. -/
def sv (b : Nat) : Int := if ng b = true then -(fv (rg b) : Int) else (fv (rg b) : Int)

theorem read_fin {b : Nat} (h : Fin7 b) : ∃ m i : Nat, Ieee.double.read b = .number (ng b) m ((i : Int) - 1074) ∧ m * 2 ^ i = fv (rg b) := by
  unfold Fin7 at h
  have e : Ieee.double.read b = (if rg b < 2 ^ 52 then Ieee.Datum.number (ng b) (rg b) (-1074)
    else if rg b < 2047 * 2 ^ 52 then .number (ng b) (2 ^ 52 + rg b % 2 ^ 52) (-1074 + (rg b / 2 ^ 52 - 1 : Nat))
    else if rg b = 2047 * 2 ^ 52 then .infinity (ng b) else .nan (ng b) (rg b - 2047 * 2 ^ 52)) := rfl
  rw [e]
  by_cases h1 : rg b < 2 ^ 52
  · exact ⟨rg b, 0, by rw [if_pos h1]; rfl, by unfold fv; rw [if_pos h1]; simp⟩
  · refine ⟨2 ^ 52 + rg b % 2 ^ 52, rg b / 2 ^ 52 - 1, ?_, by unfold fv; rw [if_neg h1]⟩
    rw [if_neg h1, if_pos h, show (-1074 : Int) + (rg b / 2 ^ 52 - 1 : Nat) = ((rg b / 2 ^ 52 - 1 : Nat) : Int) - 1074 by omega]
theorem read_not {b : Nat} (h : ¬ Fin7 b) : Ieee.double.read b = (if rg b = 2047 * 2 ^ 52 then Ieee.Datum.infinity (ng b) else .nan (ng b) (rg b - 2047 * 2 ^ 52)) := by
  unfold Fin7 at h
  have e : Ieee.double.read b = (if rg b < 2 ^ 52 then Ieee.Datum.number (ng b) (rg b) (-1074)
    else if rg b < 2047 * 2 ^ 52 then .number (ng b) (2 ^ 52 + rg b % 2 ^ 52) (-1074 + (rg b / 2 ^ 52 - 1 : Nat))
    else if rg b = 2047 * 2 ^ 52 then .infinity (ng b) else .nan (ng b) (rg b - 2047 * 2 ^ 52)) := rfl
  rw [e, if_neg (by omega), if_neg h]
theorem read_inf {b : Nat} (h : rg b = 2047 * 2 ^ 52) : Ieee.double.read b = .infinity (ng b) := by
  rw [read_not (by unfold Fin7; omega), if_pos h]
theorem read_nan {b : Nat} (h : 2047 * 2 ^ 52 < rg b) : ∃ t, Ieee.double.read b = .nan (ng b) t := by
  rw [read_not (by unfold Fin7; omega), if_neg (by omega)]
  exact ⟨_, rfl⟩

theorem cmp_lt {a b : Int} (h : a < b) : compare a b = .lt := by
  show compareOfLessAndEq a b = _
  unfold compareOfLessAndEq; rw [if_pos h]
theorem cmp_eq {a b : Int} (h : a = b) : compare a b = .eq := by
  show compareOfLessAndEq a b = _
  unfold compareOfLessAndEq; rw [if_neg (by omega), if_pos h]
theorem cmp_gt {a b : Int} (h : b < a) : compare a b = .gt := by
  show compareOfLessAndEq a b = _
  unfold compareOfLessAndEq; rw [if_neg (by omega), if_neg (by omega)]
theorem compare_scale (a b : Int) (k : Nat) : compare (a * 2 ^ k) (b * 2 ^ k) = compare a b := by
  have hk : (0 : Int) < 2 ^ k := Int.pow_pos (by omega)
  rcases Int.lt_trichotomy a b with h | h | h
  · rw [cmp_lt h, cmp_lt (Int.mul_lt_mul_of_pos_right h hk)]
  · subst h; rw [cmp_eq rfl, cmp_eq rfl]
  · rw [cmp_gt h, cmp_gt (Int.mul_lt_mul_of_pos_right h hk)]
theorem signed_mul (s : Bool) (m i k : Nat) (h : k ≤ i) : Ieee.signed s m (i - k) * 2 ^ k = if s = true then -((m * 2 ^ i : Nat) : Int) else ((m * 2 ^ i : Nat) : Int) := by
  have e : m * 2 ^ i = m * 2 ^ (i - k) * 2 ^ k := by rw [Nat.mul_assoc, ← Nat.pow_add, show i - k + k = i by omega]
  rw [e]
  unfold Ieee.signed
  rw [Nat.shiftLeft_eq]
  cases s
  · simp
  · simp [Int.neg_mul]
/-- The order of finite ones is that of what they denote. -/
theorem order_fin {x y : Nat} (hx : Fin7 x) (hy : Fin7 y) : Ieee.double.order x y = some (compare (sv x) (sv y)) := by
  obtain ⟨m, i, e1, f1⟩ := read_fin hx
  obtain ⟨n, j, e2, f2⟩ := read_fin hy
  unfold Ieee.Format.order
  rw [e1, e2]
  unfold sv
  rw [← f1, ← f2]
  show some (compare (Ieee.signed (ng x) m (((i : Int) - 1074) - min ((i : Int) - 1074) ((j : Int) - 1074)).toNat) (Ieee.signed (ng y) n (((j : Int) - 1074) - min ((i : Int) - 1074) ((j : Int) - 1074)).toNat)) = _
  rw [show (((i : Int) - 1074) - min ((i : Int) - 1074) ((j : Int) - 1074)).toNat = i - min i j by omega, show (((j : Int) - 1074) - min ((i : Int) - 1074) ((j : Int) - 1074)).toNat = j - min i j by omega]
  rw [← compare_scale _ _ (min i j), signed_mul _ _ _ _ (by omega), signed_mul _ _ _ _ (by omega)]
theorem order_nan_l {x y : Nat} (hx : 2047 * 2 ^ 52 < rg x) : Ieee.double.order x y = none := by
  obtain ⟨t, e⟩ := read_nan hx
  unfold Ieee.Format.order
  rw [e]; rfl
theorem order_nan_r {x y : Nat} (hy : 2047 * 2 ^ 52 < rg y) : Ieee.double.order x y = none := by
  obtain ⟨t, e⟩ := read_nan hy
  unfold Ieee.Format.order
  rw [e]
  cases Ieee.double.read x <;> rfl
theorem order_inf_l {x y : Nat} (hx : rg x = 2047 * 2 ^ 52) (hy : Fin7 y) : Ieee.double.order x y = some (if ng x = true then .lt else .gt) := by
  obtain ⟨n, j, e2, f2⟩ := read_fin hy
  unfold Ieee.Format.order
  rw [read_inf hx, e2]; rfl
theorem order_inf_r {x y : Nat} (hx : Fin7 x) (hy : rg y = 2047 * 2 ^ 52) : Ieee.double.order x y = some (if ng y = true then .gt else .lt) := by
  obtain ⟨n, j, e2, f2⟩ := read_fin hx
  unfold Ieee.Format.order
  rw [read_inf hy, e2]; rfl
theorem order_inf_inf {x : Nat} (hx : rg x = 2047 * 2 ^ 52) : Ieee.double.order x x = some .eq := by
  unfold Ieee.Format.order
  rw [read_inf hx]
  show some (compare (ng x).toNat (ng x).toNat) = _
  cases ng x <;> rfl

/-- f == f just where it is a number. -/
theorem order_self (x : Nat) : (Ieee.double.order x x == some .eq) = decide (rg x ≤ 2047 * 2 ^ 52) := by
  rcases Nat.lt_trichotomy (rg x) (2047 * 2 ^ 52) with h | h | h
  · rw [order_fin h h, cmp_eq rfl]; simp; omega
  · rw [order_inf_inf h]; simp; omega
  · rw [order_nan_l h]; simp; omega

/-- f - f is 0 where f is finite; else it has no answer. -/
theorem sub_self_fin {x : Nat} (h : Fin7 x) : Ieee.double.sub x x = some 0 := by
  obtain ⟨m, i, e1, f1⟩ := read_fin h
  unfold Ieee.Format.sub
  rw [e1]
  show Option.map _ (some (Ieee.Datum.number (if Ieee.signed (ng x) m (((i : Int) - 1074) - min ((i : Int) - 1074) ((i : Int) - 1074)).toNat + Ieee.signed (!(ng x)) m (((i : Int) - 1074) - min ((i : Int) - 1074) ((i : Int) - 1074)).toNat = 0 then (ng x && !(ng x)) else decide (Ieee.signed (ng x) m (((i : Int) - 1074) - min ((i : Int) - 1074) ((i : Int) - 1074)).toNat + Ieee.signed (!(ng x)) m (((i : Int) - 1074) - min ((i : Int) - 1074) ((i : Int) - 1074)).toNat < 0)) (Ieee.signed (ng x) m (((i : Int) - 1074) - min ((i : Int) - 1074) ((i : Int) - 1074)).toNat + Ieee.signed (!(ng x)) m (((i : Int) - 1074) - min ((i : Int) - 1074) ((i : Int) - 1074)).toNat).natAbs (min ((i : Int) - 1074) ((i : Int) - 1074)))) = _
  have z : ∀ k, Ieee.signed (ng x) m k + Ieee.signed (!(ng x)) m k = 0 := by
    intro k
    unfold Ieee.signed
    cases ng x <;> simp <;> omega
  rw [z, if_pos rfl, show (ng x && !(ng x)) = false by cases ng x <;> rfl]
  rfl
theorem sub_self_not {x : Nat} (h : ¬ Fin7 x) : Ieee.double.sub x x = none := by
  unfold Ieee.Format.sub
  rw [read_not h]
  split
  · cases ng x <;> rfl
  · cases ng x <;> rfl
/-- f == 0, f < 0. -/
theorem fin_zero : Fin7 0 := by decide
theorem sv_zero : sv 0 = 0 := by decide
theorem sv_eq_zero {x : Nat} : sv x = 0 ↔ rg x = 0 := by
  have h := @fv_eq_zero (rg x)
  unfold sv
  split <;> omega
theorem order_zero_eq (x : Nat) : (Ieee.double.order x 0 == some .eq) = decide (rg x = 0) := by
  rcases Nat.lt_trichotomy (rg x) (2047 * 2 ^ 52) with h | h | h
  · rw [order_fin h fin_zero, sv_zero]
    rcases Int.lt_trichotomy (sv x) 0 with q | q | q
    · rw [cmp_lt q]
      have : rg x ≠ 0 := fun e => by have := sv_eq_zero.2 e; omega
      simp [this]
    · rw [cmp_eq q]; simp [sv_eq_zero.1 q]
    · rw [cmp_gt q]
      have : rg x ≠ 0 := fun e => by have := sv_eq_zero.2 e; omega
      simp [this]
  · rw [order_inf_l h fin_zero]
    have : rg x ≠ 0 := by omega
    cases ng x <;> simp [this]
  · rw [order_nan_l h]
    have : rg x ≠ 0 := by omega
    simp [this]
theorem order_zero_lt {x : Nat} (h : Fin7 x) : (Ieee.double.order x 0 == some .lt) = (ng x && decide (rg x ≠ 0)) := by
  have hz := @fv_eq_zero (rg x)
  rw [order_fin h fin_zero, sv_zero]
  unfold sv
  cases hn : ng x
  · rw [if_neg (by simp)]
    by_cases e : (fv (rg x) : Int) = 0
    · rw [cmp_eq e]; rfl
    · rw [cmp_gt (by omega)]; rfl
  · rw [if_pos rfl]
    by_cases e : rg x = 0
    · rw [hz.2 e, cmp_eq (by omega)]; simp [e]
    · rw [cmp_lt (by have := fun q => e (hz.1 q); omega)]; simp [e]
/-- Words by sign and rung. -/
theorem rg_lt (b : Nat) : rg b < 2 ^ 63 := Nat.mod_lt _ (by decide)
theorem word_parts {b : Nat} (h : b < 2 ^ 64) : b = (if ng b = true then 2 ^ 63 else 0) + rg b := by
  unfold ng rg
  by_cases q : b < 2 ^ 63
  · rw [if_neg (by simp; omega)]; omega
  · rw [if_pos (by simp; omega)]; omega
theorem rg_pos {r : Nat} (h : r < 2 ^ 63) : rg r = r ∧ ng r = false := by
  unfold rg ng
  exact ⟨by omega, by simp; omega⟩
theorem rg_neg {r : Nat} (h : r < 2 ^ 63) : rg (2 ^ 63 + r) = r ∧ ng (2 ^ 63 + r) = true := by
  unfold rg ng
  exact ⟨by omega, by simp; omega⟩
end Go.Proofs.YtdhmbalkclbhpaaGreatDoor

/- Ft7 -/
namespace Go.Proofs.YtdhmbalkclbhpaaGreatDoor
set_option linter.unusedVariables false

theorem log2_shl {m : Nat} (h : m ≠ 0) (k : Nat) : (m <<< k).log2 = m.log2 + k := by
  have h1 := bl_shift h k
  unfold bitLen at h1
  have h2 : m * 2 ^ k ≠ 0 := Nat.mul_ne_zero h (by have := Nat.two_pow_pos k; omega)
  rw [if_neg h2, if_neg h] at h1
  rw [Nat.shiftLeft_eq]; omega
/-- The model's cut is the rounding. -/
theorem cut_even (neg : Bool) {m : Nat} (h : m ≠ 0) (p : Int) : Ieee.Toward.even.cut neg (m <<< (-p).toNat) p.toNat = rnd m p := by
  unfold Ieee.Toward.cut
  rw [log2_shl h]
  simp only [Nat.shiftLeft_eq, Nat.one_mul]
  by_cases hp : p ≤ 0
  · unfold rnd
    rw [if_pos hp, show p.toNat = 0 by omega, Nat.zero_min, Nat.pow_zero, Nat.div_one, Nat.mod_one]
    simp
  · unfold rnd
    rw [if_neg hp, show (-p).toNat = 0 by omega, Nat.pow_zero, Nat.mul_one, Nat.add_zero]
    by_cases hd : p.toNat ≤ m.log2 + 2
    · rw [Nat.min_eq_left hd]
      congr 1
      by_cases c1 : 2 ^ p.toNat < 2 * (m % 2 ^ p.toNat) ∨ (2 ^ p.toNat = 2 * (m % 2 ^ p.toNat) ∧ m / 2 ^ p.toNat % 2 = 1)
      · rw [if_pos c1]
        rcases c1 with q | q
        · rw [decide_eq_true q]; rfl
        · rw [← q.1, q.2]; simp
      · rw [if_neg c1]
        have n1 : ¬ 2 ^ p.toNat < 2 * (m % 2 ^ p.toNat) := fun q => c1 (.inl q)
        rw [decide_eq_false n1]
        by_cases e : 2 ^ p.toNat = 2 * (m % 2 ^ p.toNat)
        · have n2 : m / 2 ^ p.toNat % 2 = 0 := by have := fun q => c1 (.inr ⟨e, q⟩); omega
          rw [n2]; simp
        · rw [beq_false_of_ne e]; rfl
    · rw [Nat.min_eq_right (by omega)]
      have hlt : m < 2 ^ (m.log2 + 1) := Nat.lt_log2_self
      have e2 : 2 ^ (m.log2 + 2) = 2 * 2 ^ (m.log2 + 1) := by rw [Nat.pow_succ, Nat.mul_comm]
      have hle : 2 ^ (m.log2 + 2) ≤ 2 ^ p.toNat := Nat.pow_le_pow_right (by omega) (by omega)
      have d1 : m / 2 ^ (m.log2 + 2) = 0 := Nat.div_eq_of_lt (by omega)
      have d2 : m / 2 ^ p.toNat = 0 := Nat.div_eq_of_lt (by omega)
      have d3 : m % 2 ^ (m.log2 + 2) = m := Nat.mod_eq_of_lt (by omega)
      have d4 : m % 2 ^ p.toNat = m := Nat.mod_eq_of_lt (by omega)
      rw [d1, d2, d3, d4]
      rw [if_neg (by omega), decide_eq_false (by omega), beq_false_of_ne (by omega)]
      rfl
/-- The model's nearest. -/
theorem nearest_eq (neg : Bool) (m : Nat) (n : Int) : Ieee.double.nearest neg m n = (if neg = true then 2 ^ 63 else 0) + nbits m n := by
  have hw : ∀ r, Ieee.double.word neg r = (if neg = true then 2 ^ 63 else 0) + r := by
    intro r
    unfold Ieee.Format.word
    cases neg
    · simp
    · rfl
  unfold Ieee.Format.nearest
  by_cases h : m = 0
  · rw [if_pos h, h, nbits_zero, hw]
  rw [if_neg h, hw]
  congr 1
  have hb : (bitLen m : Int) = (m.log2 : Int) + 1 := by unfold bitLen; rw [if_neg h]; rfl
  have hu : max (n + (m.log2 : Int) - 52) (-1074) = unitOf m n := by unfold unitOf; rw [hb]; congr 1; omega
  show min ((max (n + (m.log2 : Int) - 52) (-1074) - -1074).toNat * 2 ^ 52 + Ieee.Toward.even.cut neg (m <<< (n - max (n + (m.log2 : Int) - 52) (-1074)).toNat) (max (n + (m.log2 : Int) - 52) (-1074) - n).toNat) (2047 * 2 ^ 52) = _
  rw [hu, show n - unitOf m n = -(unitOf m n - n) by omega, cut_even neg h, show unitOf m n - -1074 = unitOf m n + 1074 by omega]
  by_cases hbig : 1024 < (bitLen m : Int) + n
  · have hn : nbits m n = 2047 * 2 ^ 52 := by unfold nbits; rw [if_neg h, if_pos hbig]
    rw [hn]
    have hu2 : unitOf m n = (bitLen m : Int) + n - 53 := by unfold unitOf; omega
    obtain ⟨k1, k2⟩ := kept h rfl (show (bitLen m : Int) - 53 ≤ unitOf m n - n by omega)
    have hr : 2 ^ 52 ≤ rnd m (unitOf m n - n) := by
      unfold rnd
      by_cases hp : unitOf m n - n ≤ 0
      · rw [if_pos hp]; exact (k1 hp).2 (by omega)
      · rw [if_neg hp]; exact Nat.le_trans ((k2 (by omega)).2 (by omega)) (Nat.le_add_right _ _)
    exact Nat.min_eq_right (by omega)
  · have hn : nbits m n = (unitOf m n + 1074).toNat * 2 ^ 52 + rnd m (unitOf m n - n) := by unfold nbits; rw [if_neg h, if_neg hbig]
    rw [← hn]
    exact Nat.min_eq_left (nbits_le m n)

/-- S * 2^n, without what is behind the point. -/
def mv (S : Nat) (n : Int) : Nat := if n < 0 then S / 2 ^ (-n).toNat else S * 2 ^ n.toNat
theorem mv_shift (c e : Nat) (n : Int) : mv (c * 2 ^ e) n = mv c (e + n) := by
  unfold mv
  by_cases h1 : n < 0
  · rw [if_pos h1]
    by_cases h2 : (e : Int) + n < 0
    · rw [if_pos h2]
      have : (-n).toNat = (-((e : Int) + n)).toNat + e := by omega
      rw [this, Nat.pow_add, Nat.mul_div_mul_right _ _ (Nat.two_pow_pos _)]
    · rw [if_neg h2]
      have : e = ((e : Int) + n).toNat + (-n).toNat := by omega
      rw [this, Nat.pow_add, ← Nat.mul_assoc, Nat.mul_div_cancel _ (Nat.two_pow_pos _)]
      congr 2; omega
  · rw [if_neg h1, if_neg (by omega), Nat.mul_assoc, ← Nat.pow_add]
    congr 2; omega
theorem mv_zero (n : Int) : mv 0 n = 0 := by unfold mv; split <;> simp
theorem wv_mv (r : Nat) : wv r = mv (fv r) (-1074) := by
  unfold wv mv
  rw [if_pos (by omega), show (-(-1074 : Int)).toNat = E7 from rfl]
/-- Without what is behind the point it is a float64. -/
theorem trunc_fv {r : Nat} (h : r < 2047 * 2 ^ 52) : fv (nbits (wv r) 0) = wv r * 2 ^ E7 ∧ nbits (wv r) 0 < 2047 * 2 ^ 52 := by
  obtain ⟨e, c, h1, h2, h3, h4⟩ := rung_form r
  have hw : wv r = mv c (e - 1074) := by
    rw [wv_mv, h4, mv_shift]; congr 1
  by_cases he : e < 1074
  · refine near_small ?_
    rw [hw]; unfold mv
    rw [if_pos (by omega)]
    exact Nat.le_trans (Nat.div_le_self _ _) (Nat.le_of_lt h2)
  · have hv : fv r = wv r * 2 ^ E7 := by
      rw [hw, h4]; unfold mv
      rw [if_neg (by omega), Nat.mul_assoc, ← Nat.pow_add]
      congr 2; show e = _ + 1074; omega
    have hn : nbits (wv r) 0 = r := by
      have := nbits_shift (wv r) E7 0
      rw [← this, ← hv]; exact nbits_fv h
    rw [hn]; exact ⟨hv, h⟩
/-- The model's rounding toward zero. -/
theorem cut_zero (neg : Bool) (n d : Nat) : Ieee.Toward.zero.cut neg n d = n / 2 ^ d := by
  unfold Ieee.Toward.cut
  simp only [Nat.shiftLeft_eq, Nat.one_mul, Bool.toNat_false, Nat.add_zero]
  by_cases hd : d ≤ n.log2 + 2
  · rw [Nat.min_eq_left hd]
  · rw [Nat.min_eq_right (by omega)]
    have hlt : n < 2 ^ (n.log2 + 1) := Nat.lt_log2_self
    have h2 : 2 ^ (n.log2 + 1) ≤ 2 ^ (n.log2 + 2) := Nat.pow_le_pow_right (by omega) (by omega)
    have h3 : 2 ^ (n.log2 + 2) ≤ 2 ^ d := Nat.pow_le_pow_right (by omega) (by omega)
    rw [Nat.div_eq_of_lt (by omega), Nat.div_eq_of_lt (by omega)]
theorem integral_fin {b : Nat} (h : Fin7 b) : Ieee.double.write ((Ieee.double.read b).integral .zero) = (if ng b = true then 2 ^ 63 else 0) + nbits (wv (rg b)) 0 := by
  obtain ⟨m, i, e1, f1⟩ := read_fin h
  rw [e1]
  show Ieee.double.nearest (ng b) (Ieee.Toward.zero.cut (ng b) (m <<< ((i : Int) - 1074).toNat) (-((i : Int) - 1074)).toNat) 0 = _
  rw [nearest_eq, cut_zero]
  congr 2
  rw [wv_mv, ← f1, mv_shift, Nat.shiftLeft_eq]
  unfold mv
  by_cases hi : (i : Int) + -1074 < 0
  · rw [if_pos hi, show ((i : Int) - 1074).toNat = 0 by omega, Nat.pow_zero, Nat.mul_one]
    congr 2
  · rw [if_neg hi, show (-((i : Int) - 1074)).toNat = 0 by omega, Nat.pow_zero, Nat.div_one]
    congr 2
end Go.Proofs.YtdhmbalkclbhpaaGreatDoor

/- Wf7 -/
namespace Go.Proofs.YtdhmbalkclbhpaaGreatDoor
open Go.RowKit
set_option linter.unusedVariables false

theorem ffrom_run (b : Nat) (w : World) : (callFunc 50 #[.int .u64 b]).run Tryz.prog w = .ok (.value (.float .f64 b)) w := by
  rw [run_callFunc_extern Tryz.func50 (by kernel_rfl) (by kernel_rfl) (by kernel_rfl) (e := Extern.MathFloatBits.float64frombits) (by kernel_rfl)]
  rfl
theorem andNot_sign {b : Nat} (h : b < 2 ^ 64) : bits .andNot .u64 (b : Int) 9223372036854775808 = (rg b : Int) := by
  have := u64_andNot_nat b 9223372036854775808 (by omega) (by omega)
  rw [show ((9223372036854775808 : Nat) : Int) = 9223372036854775808 from rfl] at this
  rw [this, show (18446744073709551615 - 9223372036854775808 : Nat) = 2 ^ 63 - 1 from rfl, Nat.and_two_pow_sub_one_eq_mod]
  rfl

/-- A not-a-number. -/
def isN (b : Nat) : Bool := decide (2047 * 2 ^ 52 < rg b)
theorem neq_self (b : Nat) : (FloatKind.f64.format.order b b != some .eq) = isN b := by
  have h := order_self b
  show (!(Ieee.double.order b b == some .eq)) = _
  rw [h]; unfold isN
  by_cases q : rg b ≤ 2047 * 2 ^ 52
  · first | (simp [q]; done) | (simp [q]; omega)
  · first | (simp [q]; done) | (simp [q]; omega)
end Go.Proofs.YtdhmbalkclbhpaaGreatDoor
