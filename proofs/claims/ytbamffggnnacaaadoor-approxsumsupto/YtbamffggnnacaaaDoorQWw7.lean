/-
  Ww7: the float functions with several calls: IsInf, isFinite, Compare, Trunc.
-/
import Derived.Test.YtbamffggnnacaaaDoorQCarryToWf7
import Derived.Test.YtbamffggnnacaaaDoorQWords
namespace Go.Proofs.YtbamffggnnacaaaDoor
open Go.RowKit
set_option linter.unusedVariables false

/-- The greatest finite float64. -/
theorem fin_most : Fin7 9218868437227405311 := by decide
theorem rg_most : rg 9218868437227405311 = 2047 * 2 ^ 52 - 1 ∧ ng 9218868437227405311 = false := by decide
theorem gtr_most (b : Nat) : (FloatKind.f64.format.order b 9218868437227405311 == some .gt) = (decide (rg b = 2047 * 2 ^ 52) && !(ng b)) := by
  show (Ieee.double.order b 9218868437227405311 == some .gt) = _
  rcases Nat.lt_trichotomy (rg b) (2047 * 2 ^ 52) with h | h | h
  · rw [order_fin h fin_most, decide_eq_false (by omega)]
    have hle : sv b ≤ sv 9218868437227405311 := by
      have hm : sv 9218868437227405311 = (fv (2047 * 2 ^ 52 - 1) : Int) := by
        unfold sv; rw [rg_most.1, rg_most.2, if_neg (by decide)]
      have hf := fv_mono (show rg b ≤ 2047 * 2 ^ 52 - 1 by omega)
      rw [hm]
      unfold sv
      generalize fv (2047 * 2 ^ 52 - 1) = X at *
      split <;> omega
    rcases Int.lt_or_eq_of_le hle with q | q
    · rw [cmp_lt q]; rfl
    · rw [cmp_eq q]; rfl
  · rw [order_inf_l h fin_most, decide_eq_true h]
    cases ng b <;> rfl
  · rw [order_nan_l h, decide_eq_false (by omega)]; rfl
theorem rg_rg (b : Nat) : rg (rg b) = rg b ∧ ng (rg b) = false := rg_pos (rg_lt b)
set_option maxHeartbeats 800000 in
/-- IsInf with no sign asked. -/
theorem isInf_0 {b : Nat} (h : b < 2 ^ 64) (w : World) : Calls Tryd.prog 11 #[.float .f64 b, .int .i64 0] w fun e w' => e = .returned (.bool (decide (rg b = 2047 * 2 ^ 52))) ∧ w' = w := by
  have HA := hid (abs_f h w)
  have q0 : ((0 : Int) == 0) = true := rfl
  have HG : Hid ((FloatKind.f64.format.order (rg b) 9218868437227405311 == some .gt) = decide (rg b = 2047 * 2 ^ 52)) := by
    unfold Hid; rw [gtr_most, (rg_rg b).1, (rg_rg b).2]; simp
  go_enter Tryd.func11, Tryd.ntmps11
  go_wp2_with fail
  refine HA.out.mono ?_
  rintro e w1 ⟨rfl, rfl⟩
  go_wp2
  go_ret
  exact ⟨by rw [HG.out]; rfl, rfl⟩
/-- IsInf with a sign asked. -/
def infAs (b : Nat) (s : Int) : Bool := decide (rg b = 2047 * 2 ^ 52) && (s == 0 || (ng b == decide (s < 0)))
theorem neg_bits {b : Nat} (h : b < 2 ^ 64) : Op.negFloat .f64 b < 2 ^ 64 ∧ rg (Op.negFloat .f64 b) = rg b ∧ ng (Op.negFloat .f64 b) = !(ng b) := by
  have e : Op.negFloat .f64 b = b ^^^ 2 ^ 63 := rfl
  have hx : b ^^^ 2 ^ 63 < 2 ^ 64 := Nat.xor_lt_two_pow h (by omega)
  rw [e]
  have h1 : (b ^^^ 2 ^ 63) % 2 ^ 63 = b % 2 ^ 63 := by
    apply Nat.eq_of_testBit_eq
    intro i
    rw [Nat.testBit_mod_two_pow, Nat.testBit_mod_two_pow, Nat.testBit_xor, Nat.testBit_two_pow]
    by_cases q : i < 63
    · have q2 : ¬ 63 = i := by omega
      simp [q, q2]
    · simp [q]
  have h2 : (b ^^^ 2 ^ 63).testBit 63 = !(b.testBit 63) := by
    rw [Nat.testBit_xor, Nat.testBit_two_pow_self]; simp
  refine ⟨hx, h1, ?_⟩
  rw [Nat.testBit_eq_decide_div_mod_eq, Nat.testBit_eq_decide_div_mod_eq] at h2
  unfold ng
  have t : ∀ n : Nat, (n == 1) = decide (n = 1) := fun n => by by_cases q : n = 1 <;> simp [q]
  rw [t, t]; exact h2
theorem run_negf {P : Program} (k : FloatKind) (b : Nat) (w : World) : (Op.unary .neg (.float k b)).run P w = .ok (.float k (Op.negFloat k b)) w := rfl
set_option maxHeartbeats 800000 in
theorem isInf_any {b : Nat} (h : b < 2 ^ 64) {s : Int} (w : World) : Calls Tryd.prog 11 #[.float .f64 b, .int .i64 s] w fun e w' => e = .returned (.bool (infAs b s)) ∧ w' = w := by
  by_cases h0 : s = 0
  · subst h0
    refine (isInf_0 h w).mono ?_
    rintro e w1 ⟨rfl, rfl⟩
    exact ⟨by unfold infAs; simp, rfl⟩
  have q0 : (s == 0) = false := by simp; exact h0
  by_cases h1 : s < 0
  · have HG : Hid ((FloatKind.f64.format.order (Op.negFloat .f64 b) 9218868437227405311 == some .gt) = infAs b s) := by
      unfold Hid infAs
      obtain ⟨_, e1, e2⟩ := neg_bits h
      rw [gtr_most, e1, e2, q0, decide_eq_true h1]
      cases ng b <;> simp
    generalize infAs b s = R at *
    have d1 : decide (s < 0) = true := decide_eq_true h1
    go_enter Tryd.func11, Tryd.ntmps11
    go_wp2_with (simp only [run_negf, Result.andThen])
    go_ret
    exact ⟨by rw [HG.out]; rfl, rfl⟩
  · have HG : Hid ((FloatKind.f64.format.order b 9218868437227405311 == some .gt) = infAs b s) := by
      unfold Hid infAs
      rw [gtr_most, q0, decide_eq_false h1]
      cases ng b <;> simp
    generalize infAs b s = R at *
    have d1 : decide (s < 0) = false := decide_eq_false h1
    go_enter Tryd.func11, Tryd.ntmps11
    go_wp2
    go_ret
    exact ⟨by rw [HG.out]; rfl, rfl⟩
set_option maxHeartbeats 800000 in
theorem isFinite_any {b : Nat} (h : b < 2 ^ 64) (w : World) : Calls Tryd.prog 33 #[.float .f64 b] w fun e w' => e = .returned (.bool (decide (Fin7 b))) ∧ w' = w := by
  have HN := hid (isNaN_f b w)
  have HI := hid (isInf_0 h w)
  have HF : Hid (isN b = false → (!(decide (rg b = 2047 * 2 ^ 52))) = decide (Fin7 b)) := fun q => by
    unfold isN at q
    have q' := of_decide_eq_false q
    show _ = decide (rg b < 2047 * 2 ^ 52)
    by_cases z : rg b = 2047 * 2 ^ 52
    · rw [decide_eq_true z]; symm; exact decide_eq_false (by omega)
    · rw [decide_eq_false z]; symm; exact decide_eq_true (by omega)
  have HF2 : Hid (isN b = true → decide (Fin7 b) = false) := fun q => by
    unfold isN at q
    have q' := of_decide_eq_true q
    unfold Fin7
    exact decide_eq_false (by omega)
  generalize decide (Fin7 b) = R at *
  generalize decide (rg b = 2047 * 2 ^ 52) = I at *
  generalize isN b = N at *
  cases N
  · have e := HF.out rfl
    go_enter Tryd.func33, Tryd.ntmps33
    go_wp2_with fail
    refine HN.out.mono ?_
    rintro e w1 ⟨rfl, rfl⟩
    go_wp2_with fail
    refine HI.out.mono ?_
    rintro e w1 ⟨rfl, rfl⟩
    go_wp2
    go_ret
    first | exact ⟨rfl, rfl⟩ | exact ⟨by rw [e]; rfl, rfl⟩
  · have e := HF2.out rfl
    go_enter Tryd.func33, Tryd.ntmps33
    go_wp2_with fail
    refine HN.out.mono ?_
    rintro e w1 ⟨rfl, rfl⟩
    go_wp2
    go_ret
    first | exact ⟨rfl, rfl⟩ | exact ⟨by rw [e]; rfl, rfl⟩
set_option maxHeartbeats 800000 in
/-- The order of two finite ones. -/
theorem fcompare_any {x y : Nat} (hx : Fin7 x) (hy : Fin7 y) (w : World) : Calls Tryd.prog 36 #[.float .f64 x, .float .f64 y] w fun e w' => e = .returned (.int .i64 (cmpI (sv x) (sv y))) ∧ w' = w := by
  have HX := hid (cisNaN_f x w)
  have HY := hid (cisNaN_f y w)
  have nx : isN x = false := decide_eq_false (by unfold Fin7 at hx; omega)
  have ny : isN y = false := decide_eq_false (by unfold Fin7 at hy; omega)
  rw [nx] at HX
  rw [ny] at HY
  have HO : FloatKind.f64.format.order x y = some (compare (sv x) (sv y)) := order_fin hx hy
  rcases Int.lt_trichotomy (sv x) (sv y) with q | q | q
  · rw [cmp_lt q] at HO
    rw [cmpI_lt q]
    have l1 : (FloatKind.f64.format.order x y == some .lt) = true := by rw [HO]; rfl
    clear HO q
    go_enter Tryd.func36, Tryd.ntmps36
    go_wp2_with fail
    refine HX.out.mono ?_
    rintro e w1 ⟨rfl, rfl⟩
    go_wp2_with fail
    refine HY.out.mono ?_
    rintro e w1 ⟨rfl, rfl⟩
    go_wp2
    go_ret
    exact ⟨rfl, rfl⟩
  · rw [cmp_eq q] at HO
    rw [q, cmpI_self]
    have l1 : (FloatKind.f64.format.order x y == some .lt) = false := by rw [HO]; rfl
    have l2 : (FloatKind.f64.format.order x y == some .gt) = false := by rw [HO]; rfl
    clear HO q
    go_enter Tryd.func36, Tryd.ntmps36
    go_wp2_with fail
    refine HX.out.mono ?_
    rintro e w1 ⟨rfl, rfl⟩
    go_wp2_with fail
    refine HY.out.mono ?_
    rintro e w1 ⟨rfl, rfl⟩
    go_wp2
    go_ret
    exact ⟨rfl, rfl⟩
  · rw [cmp_gt q] at HO
    rw [cmpI_gt q]
    have l1 : (FloatKind.f64.format.order x y == some .lt) = false := by rw [HO]; rfl
    have l2 : (FloatKind.f64.format.order x y == some .gt) = true := by rw [HO]; rfl
    clear HO q
    go_enter Tryd.func36, Tryd.ntmps36
    go_wp2_with fail
    refine HX.out.mono ?_
    rintro e w1 ⟨rfl, rfl⟩
    go_wp2_with fail
    refine HY.out.mono ?_
    rintro e w1 ⟨rfl, rfl⟩
    go_wp2
    go_ret
    exact ⟨rfl, rfl⟩
/-- Without what is behind the point. -/
def trw (b : Nat) : Nat := (if ng b = true then 2 ^ 63 else 0) + nbits (wv (rg b)) 0
/-- The same, as a whole number. -/
def swv (b : Nat) : Int := if ng b = true then -(wv (rg b) : Int) else (wv (rg b) : Int)
theorem trw_sv {b : Nat} (h : Fin7 b) : Fin7 (trw b) ∧ sv (trw b) = swv b * ((2 ^ E7 : Nat) : Int) := by
  obtain ⟨h1, h2⟩ := trunc_fv h
  have hl : nbits (wv (rg b)) 0 < 2 ^ 63 := by omega
  unfold trw sv swv Fin7
  cases hn : ng b
  · simp only [Bool.false_eq_true, if_false, Nat.zero_add]
    rw [(rg_pos hl).1, (rg_pos hl).2, h1]
    refine ⟨h2, ?_⟩
    simp only [Bool.false_eq_true, if_false]
    exact Int.natCast_mul _ _
  · simp only [if_true]
    rw [(rg_neg hl).1, (rg_neg hl).2, h1]
    refine ⟨h2, ?_⟩
    simp only [if_true]
    rw [Int.natCast_mul, Int.neg_mul]
theorem archTrunc_run {b : Nat} (h : Fin7 b) (w : World) : (callFunc 55 #[.float .f64 b]).run Tryd.prog w = .ok (.value (.float .f64 (trw b))) w := by
  rw [run_callFunc_extern Tryd.func55 (by kernel_rfl) (by kernel_rfl) (by kernel_rfl) (e := Extern.MathFloor.toIntegral "math.archTrunc" .zero) (by kernel_rfl)]
  have hi := integral_fin h
  obtain ⟨m, i, e1, f1⟩ := read_fin h
  have e2 : FloatKind.f64.decode b = .number (ng b) m ((i : Int) - 1074) := e1
  rw [show Extern.MathFloor.toIntegral "math.archTrunc" .zero #[.float .f64 b] = Extern.MathFloor.toIntegral.match_1 (fun _ => Sem Value) (FloatKind.f64.decode b) _ _ from rfl, e2]
  rw [e1] at hi
  unfold trw
  rw [← hi]
  rfl
set_option maxHeartbeats 800000 in
theorem trunc_f {b : Nat} (h : Fin7 b) (w : World) : Calls Tryd.prog 37 #[.float .f64 b] w fun e w' => e = .returned (.float .f64 (trw b)) ∧ w' = w := by
  have k1 := archTrunc_run h
  go_enter Tryd.func37, Tryd.ntmps37
  go_wp2_with (simp only [k1])
  go_ret
  exact ⟨rfl, rfl⟩
end Go.Proofs.YtbamffggnnacaaaDoor
