/-
  QWp8ToBitAt: Wp8, BitAt, joined.
-/
import Derived.Test.YtaoammmnpfbdfaaQZDivs
import Derived.Test.YtaoammmnpfbdfaaQRq8ToMWord
import Derived.Test.YtaoammmnpfbdfaaQLen2ToTrim

/- Wp8 -/
namespace Go.Proofs.Ytaoammmnpfbdfaa
open Go.RowKit
set_option linter.unusedVariables false

theorem fl_spec {A B : Int} (hB : B ≠ 0) : fdv A B * B + fmd A B = A ∧ (0 < B → 0 ≤ fmd A B ∧ fmd A B < B) ∧ (B < 0 → B < fmd A B ∧ fmd A B ≤ 0) := by
  have d := divs (A := A) hB
  have f3 := d.f3
  have f2 := d.f2
  rw [sgn_prod] at f3
  refine ⟨d.f1, fun h => ⟨?_, ?_⟩, fun h => ⟨?_, ?_⟩⟩ <;> omega
/-- The integer nearest to A/B. -/
def Nr (A B m : Int) : Prop := 2 * ((A - m * B).natAbs : Int) ≤ (B.natAbs : Int) ∧ (2 * ((A - m * B).natAbs : Int) = (B.natAbs : Int) → m % 2 = 0)
theorem near_up {A B : Int} (hB : B ≠ 0) (h : (B.natAbs : Int) < ((fmd A B + fmd A B).natAbs : Int)) : Nr A B (fdv A B + 1) := by
  obtain ⟨e, p, n⟩ := fl_spec (A := A) hB
  have e' : A - (fdv A B + 1) * B = fmd A B - B := by rw [Int.add_mul, Int.one_mul]; omega
  unfold Nr
  rw [e']
  refine ⟨?_, fun h' => ?_⟩ <;> rcases Int.lt_or_gt_of_ne hB with b | b
  · have := n b; omega
  · have := p b; omega
  · have := n b; omega
  · have := p b; omega
theorem near_tie_odd {A B : Int} (hB : B ≠ 0) (h : ((fmd A B + fmd A B).natAbs : Int) = (B.natAbs : Int)) (ho : (fdv A B).natAbs % 2 = 1) : Nr A B (fdv A B + 1) := by
  obtain ⟨e, p, n⟩ := fl_spec (A := A) hB
  have e' : A - (fdv A B + 1) * B = fmd A B - B := by rw [Int.add_mul, Int.one_mul]; omega
  unfold Nr
  rw [e']
  refine ⟨?_, fun h' => by omega⟩
  rcases Int.lt_or_gt_of_ne hB with b | b
  · have := n b; omega
  · have := p b; omega
theorem near_stay {A B : Int} (hB : B ≠ 0) (h : ((fmd A B + fmd A B).natAbs : Int) < (B.natAbs : Int) ∨ ((fmd A B + fmd A B).natAbs : Int) = (B.natAbs : Int) ∧ (fdv A B).natAbs % 2 = 0) : Nr A B (fdv A B) := by
  obtain ⟨e, p, n⟩ := fl_spec (A := A) hB
  have e' : A - fdv A B * B = fmd A B := by omega
  unfold Nr
  rw [e']
  refine ⟨?_, fun h' => ?_⟩ <;> omega
theorem sgn_one : cmpI 1 0 = 1 := by decide
theorem sgn_two : cmpI 2 0 = 1 := by decide
/-- Cmp of the floor, and of the floor and 1. -/
theorem cmp_floor {N D : Int} (hD : D ≠ 0) : ¬ 0 < cmpI 1 0 * cmpI D 0 * cmpI (fdv N D * D) (N * 1) := by
  obtain ⟨e, p, n⟩ := fl_spec (A := N) hD
  rw [sgn_one, Int.one_mul, Int.mul_one]
  rcases Int.lt_or_gt_of_ne hD with b | b
  · have := n b
    rw [cmpI_lt b]
    rcases cmp_cases (fdv N D * D) N with ⟨_, h⟩ | ⟨_, h⟩ | ⟨_, h⟩ <;> rw [h] <;> omega
  · have := p b
    rw [cmpI_gt b]
    rcases cmp_cases (fdv N D * D) N with ⟨_, h⟩ | ⟨_, h⟩ | ⟨_, h⟩ <;> rw [h] <;> omega
theorem cmp_above {N D : Int} (hD : D ≠ 0) : 0 < cmpI 1 0 * cmpI D 0 * cmpI ((fdv N D + 1) * D) (N * 1) := by
  obtain ⟨e, p, n⟩ := fl_spec (A := N) hD
  rw [sgn_one, Int.one_mul, Int.mul_one, Int.add_mul, Int.one_mul]
  rcases Int.lt_or_gt_of_ne hD with b | b
  · have := n b
    rw [cmpI_lt b, cmpI_lt (by omega)]
    decide
  · have := p b
    rw [cmpI_gt b, cmpI_gt (by omega)]
    decide
/-- The gap. -/
theorem cmp_gap {N D m : Int} {g : Rat} (hD : D ≠ 0) (hm : Nr N D m) (hg : g.num * D = (N - m * D) * (g.den : Int)) :
    ¬ 0 < cmpI (g.den : Int) 0 * cmpI 2 0 * cmpI ((g.num.natAbs : Int) * 2) (1 * (g.den : Int)) ∧ (cmpI (g.den : Int) 0 * cmpI 2 0 * cmpI ((g.num.natAbs : Int) * 2) (1 * (g.den : Int)) = 0 → m % 2 = 0) := by
  have d0 : 0 < (g.den : Int) := by have := g.den_pos; omega
  obtain ⟨h1, h2⟩ := hm
  have ea : (g.num.natAbs : Int) * (D.natAbs : Int) = ((N - m * D).natAbs : Int) * (g.den : Int) := by
    have := congrArg Int.natAbs hg
    rw [Int.natAbs_mul, Int.natAbs_mul, Int.natAbs_natCast] at this
    exact_mod_cast this
  rw [sgn_two, cmpI_gt d0, Int.one_mul, Int.one_mul, Int.one_mul]
  have Dp : 0 < (D.natAbs : Int) := by omega
  generalize (g.num.natAbs : Int) = x at *
  generalize ((N - m * D).natAbs : Int) = y at *
  generalize (D.natAbs : Int) = z at *
  generalize (g.den : Int) = d at *
  have k1 : x * 2 ≤ d := by
    refine Int.le_of_mul_le_mul_right ?_ Dp
    have e1 : x * 2 * z = 2 * y * d := by grind
    rw [e1]
    have := Int.mul_le_mul_of_nonneg_right h1 (Int.le_of_lt d0)
    rw [Int.mul_comm d z]
    exact this
  refine ⟨?_, fun h => h2 ?_⟩
  · rcases cmp_cases (x * 2) d with ⟨_, h⟩ | ⟨_, h⟩ | ⟨_, h⟩ <;> rw [h] <;> omega
  · have e0 : x * 2 = d := cmpI_zero h
    have : 2 * y * d = z * d := by
      have : 2 * y * d = 2 * (y * d) := by grind
      rw [this, ← ea, ← e0]
      grind
    exact Int.eq_of_mul_eq_mul_right (by omega) this
/-- A whole number more makes the floor that much more. -/
theorem floor_more {N D K : Int} {f : Rat} (hD : D ≠ 0) (hf : f.num * D = (N + K * D) * (f.den : Int)) : fdv f.num (f.den : Int) = fdv N D + K := by
  have d0 : 0 < (f.den : Int) := by have := f.den_pos; omega
  obtain ⟨e, p, n⟩ := fl_spec (A := N) hD
  obtain ⟨e', p', -⟩ := fl_spec (A := f.num) (B := (f.den : Int)) (by omega)
  obtain ⟨r0, r1⟩ := p' d0
  generalize fdv f.num (f.den : Int) = q' at *
  generalize fmd f.num (f.den : Int) = r' at *
  generalize fdv N D = q at *
  generalize fmd N D = r at *
  generalize (f.den : Int) = d at *
  generalize f.num = x at *
  subst e e'
  have h1 : (q + K - q') * (D * d) = r' * D - r * d := by grind
  rcases Int.lt_or_gt_of_ne hD with b | b
  · obtain ⟨s0, s1⟩ := n b
    have a1 : r' * D ≤ 0 := Int.mul_nonpos_of_nonneg_of_nonpos r0 (by omega)
    have a2 : d * D < r' * D := Int.mul_lt_mul_of_neg_right r1 b
    have a3 : r * d ≤ 0 := Int.mul_nonpos_of_nonpos_of_nonneg s1 (by omega)
    have a4 : D * d < r * d := Int.mul_lt_mul_of_pos_right s0 d0
    have a5 : d * D = D * d := Int.mul_comm _ _
    have Dd : D * d < 0 := Int.mul_neg_of_neg_of_pos b d0
    have z : q + K - q' = 0 := by
      refine Classical.byContradiction fun hz => ?_
      rcases Int.lt_or_gt_of_ne hz with c | c
      · have := Int.mul_le_mul_of_nonpos_right (show q + K - q' ≤ -1 by omega) (Int.le_of_lt Dd)
        omega
      · have := Int.mul_le_mul_of_nonpos_right (show 1 ≤ q + K - q' by omega) (Int.le_of_lt Dd)
        omega
    omega
  · obtain ⟨s0, s1⟩ := p b
    have a1 : 0 ≤ r' * D := Int.mul_nonneg r0 (by omega)
    have a2 : r' * D < d * D := Int.mul_lt_mul_of_pos_right r1 b
    have a3 : 0 ≤ r * d := Int.mul_nonneg s0 (by omega)
    have a4 : r * d < D * d := Int.mul_lt_mul_of_pos_right s1 d0
    have a5 : d * D = D * d := Int.mul_comm _ _
    have Dd : 0 < D * d := Int.mul_pos b d0
    have z : q + K - q' = 0 := by
      refine Classical.byContradiction fun hz => ?_
      rcases Int.lt_or_gt_of_ne hz with c | c
      · have := Int.mul_le_mul_of_nonneg_right (show q + K - q' ≤ -1 by omega) (Int.le_of_lt Dd)
        omega
      · have := Int.mul_le_mul_of_nonneg_right (show 1 ≤ q + K - q' by omega) (Int.le_of_lt Dd)
        omega
    omega
end Go.Proofs.Ytaoammmnpfbdfaa

/- BitAt -/
namespace Go.Proofs.Ytaoammmnpfbdfaa
open Go.RowKit

/-- What Bit answers. -/
def bitAt (v : Nat) (i : Int) : Int := if i < 0 then 0 else ((v / 2 ^ i.toNat % 2 : Nat) : Int)
theorem and_one {x : Int} (hx : IsW x) (k : Nat) : wrap64 (bits BinOp.and IntKind.u64 (x / 2 ^ k) 1) = ((x.toNat / 2 ^ k % 2 : Nat) : Int) := by
  have hl := toNat_lt hx
  obtain ⟨n, rfl⟩ := Int.eq_ofNat_of_zero_le hx.1
  simp only [Int.toNat_natCast] at hl ⊢
  have e : (n : Int) / 2 ^ k = ((n / 2 ^ k : Nat) : Int) := by simp
  have hd : n / 2 ^ k ≤ n := Nat.div_le_self _ _
  rw [e, show (1 : Int) = ((1 : Nat) : Int) from rfl, bits_and_u64_nat _ 1 (by omega) (by omega), Nat.and_one_is_mod]
  unfold wrap64
  omega
theorem bit_word {xs : List Int} (hw : WF xs) {n : Nat} (h : n / 64 < xs.length) : vn xs / 2 ^ n % 2 = xs[n / 64].toNat / 2 ^ (n % 64) % 2 := by
  rw [bit_val, bit_val, vn_bit hw]
  simp [h]
theorem bit_beyond {xs : List Int} (hw : WF xs) {n : Nat} (h : xs.length ≤ n / 64) : vn xs / 2 ^ n % 2 = 0 := by
  rw [bit_val, vn_bit hw]
  simp [h]

set_option maxHeartbeats 800000 in
theorem bit_any {B : Nat} {w : World} {v : Value} {xs : List Int} (h : Sl B w v xs) {i : Int} (hi0 : -9223372036854775808 ≤ i) (hi1 : i ≤ 9223372036854775807) :
    Calls Try.prog 47 #[v, .int .i64 i] w fun e w' => e = .returned (.int .i64 (bitAt (vn xs) i)) ∧ w' = w := by
  obtain ⟨hw, a, cap, rfl, hlc, hcm, hm⟩ := h
  by_cases hn : i < 0
  · have HV : Hid (bitAt (vn xs) i = 0) := by unfold Hid bitAt; rw [if_pos hn]
    generalize bitAt (vn xs) i = V at *
    go_enter Try.func47, Try.ntmps47
    go_wp2
    go_ret
    exact ⟨by rw [HV.out]; rfl, rfl⟩
  · obtain ⟨n, rfl⟩ := Int.eq_ofNat_of_zero_le (show 0 ≤ i by omega)
    have hv : bitAt (vn xs) (n : Int) = ((vn xs / 2 ^ n % 2 : Nat) : Int) := by unfold bitAt; rw [if_neg hn]; simp
    by_cases hl : n / 64 < xs.length
    · rw [bit_word hw hl] at hv
      have HV := hid hv
      generalize bitAt (vn xs) (n : Int) = V at *
      rcases hm with e | ⟨b, off, rfl, hb, hc⟩
      · subst e; simp at hl
      have c1 := hc (n / 64) hl
      have hx := hw.get hl
      have HA := hid (and_one hx (n % 64))
      unfold IsW wB at hx
      generalize xs[n / 64] = x at *
      clear hv hc hw
      go_enter Try.func47, Try.ntmps47
      go_wp2
      go_ret
      refine ⟨congrArg Ending.returned (congrArg (Value.int IntKind.i64) ?_), rfl⟩
      rw [HV.out]
      exact HA.out
    · rw [bit_beyond hw (by omega)] at hv
      have HV := hid hv
      generalize bitAt (vn xs) (n : Int) = V at *
      clear hv hw
      go_enter Try.func47, Try.ntmps47
      go_wp2
      go_ret
      exact ⟨by rw [HV.out]; rfl, rfl⟩
end Go.Proofs.Ytaoammmnpfbdfaa
