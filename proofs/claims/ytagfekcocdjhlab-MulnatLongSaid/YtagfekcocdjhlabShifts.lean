/-
  Shifts: the walk of MulnatShifts.
-/
import Derived.Test.YtagfekcocdjhlabMulLow
import Derived.Test.YtagfekcocdjhlabWake
namespace Go.Proofs.Ytagfekcocdjhlab
open Go.RowKit
set_option linter.unusedVariables false

theorem canon_1 : Canon [1] := ⟨wf_word (by omega) WF.nil, rfl⟩

set_option maxRecDepth 100000 in
set_option maxHeartbeats 6400000 in
theorem shifts_neg {w : World} {va vb : Value} {xs ys : List Int} (ha : Sl w.heap.size w va xs) (hb : Sl w.heap.size w vb ys) (la : xs.length ≤ 17592186043904) (lb : ys.length ≤ 17592186043904) {i : Int} (hi : i < 0) :
    Calls Try.prog 3 #[va, vb, .int .i64 i] w fun e w' => e = .returned (.bool true) ∧ Below w.heap.size w w' := by
  have WA := hid ha.1
  have WB := hid hb.1
  go_enter Try.func3, Try.ntmps3
  go_wp2_with fail
  refine (wake_any _).mono ?_
  rintro e w1 ⟨rfl, k1⟩
  have a1 := ha.now k1
  have b1 := hb.now k1
  have g1 := k1
  clear ha hb k1
  go_wp2_with fail
  refine (mulLow_neg _ _ _ hi).mono ?_
  rintro e w2 ⟨rfl, k2⟩
  have g2 := below_step g1 k2
  clear a1 b1 g1 k2
  go_wp2
  go_ret
  exact ⟨rfl, g2⟩

set_option maxRecDepth 100000 in
set_option maxHeartbeats 6400000 in
theorem shifts_far {w : World} {va vb : Value} {xs ys : List Int} (ha : Sl w.heap.size w va xs) (hb : Sl w.heap.size w vb ys) (la : xs.length ≤ 17592186043904) (lb : ys.length ≤ 17592186043904) {n : Nat} (hn : n ≤ 9223372036854775807) (hfar : (1048576 : Int) < n) :
    Calls Try.prog 3 #[va, vb, .int .i64 (n : Int)] w fun e w' => e = .returned (.bool true) ∧ Below w.heap.size w w' := by
  have WA := hid ha.1
  have WB := hid hb.1
  go_enter Try.func3, Try.ntmps3
  go_wp2_with fail
  refine (wake_any _).mono ?_
  rintro e w1 ⟨rfl, k1⟩
  have a1 := ha.now k1
  have b1 := hb.now k1
  have g1 := k1
  clear ha hb k1
  go_wp2_with fail
  refine (mulLow_to a1 b1 (by omega) hn).mono ?_
  rintro e w2 ⟨LO, loa, loc, rfl, lo0, CLO, HLO, llo, k2⟩
  have a2 := a1.now k2
  have b2 := b1.now k2
  have g2 := below_step g1 k2
  replace CLO := hid CLO
  replace HLO := hid HLO
  clear a1 b1 g1 k2
  go_wp2_with fail
  refine (mul_now a2 b2 (by omega)).mono ?_
  rintro e w3 ⟨PP, ppa, ppc, rfl, pp0, CPP, HPP, lpp, k3⟩
  have a3 := a2.now k3
  have b3 := b2.now k3
  have lo3 := lo0.now k3
  have g3 := below_step g2 k3
  replace CPP := hid CPP
  replace HPP := hid HPP
  clear a2 b2 lo0 g2 k3
  have VPP := hid (vn_mul WA.out WB.out CPP.out.1 HPP.out)
  go_wp2_with fail
  refine (low_to pp0 hn).mono ?_
  rintro e w4 ⟨CU, cua, cuc, rfl, cu0, CCU, HCU, lcu, k4⟩
  have a4 := a3.now k4
  have b4 := b3.now k4
  have lo4 := lo3.now k4
  have g4 := below_step g3 k4
  replace CCU := hid CCU
  replace HCU := hid HCU
  clear pp0 a3 b3 lo3 g3 k4
  go_wp2_with fail
  refine (low_to a4 hn).mono ?_
  rintro e w5 ⟨XX, xxa, xxc, rfl, xx0, CXX, HXX, lxx, k5⟩
  have a5 := a4.now k5
  have b5 := b4.now k5
  have lo5 := lo4.now k5
  have cu5 := cu0.now k5
  have g5 := below_step g4 k5
  replace CXX := hid CXX
  replace HXX := hid HXX
  clear a4 b4 lo4 cu0 g4 k5
  go_wp2_with fail
  refine (low_to b5 hn).mono ?_
  rintro e w6 ⟨YY, yya, yyc, rfl, yy0, CYY, HYY, lyy, k6⟩
  have a6 := a5.now k6
  have lo6 := lo5.now k6
  have cu6 := cu5.now k6
  have xx6 := xx0.now k6
  have g6 := below_step g5 k6
  replace CYY := hid CYY
  replace HYY := hid HYY
  clear b5 a5 lo5 cu5 xx0 g5 k6
  go_wp2_with fail
  refine (mulLow_to xx6 yy0 (by omega) hn).mono ?_
  rintro e w7 ⟨AG, aga, agc, rfl, ag0, CAG, HAG, lag, k7⟩
  have a7 := a6.now k7
  have lo7 := lo6.now k7
  have cu7 := cu6.now k7
  have g7 := below_step g6 k7
  replace CAG := hid CAG
  replace HAG := hid HAG
  clear xx6 yy0 a6 lo6 cu6 g6 k7
  go_wp2_with fail
  refine (same_yes lo7 cu7 (canon_vn2 CLO.out CCU.out (by rw [HLO.out, HCU.out, VPP.out]))).mono ?_
  rintro e w8 ⟨rfl, k8⟩
  have a8 := a7.now k8
  have lo8 := lo7.now k8
  have ag8 := ag0.now k8
  have g8 := below_step g7 k8
  clear cu7 a7 lo7 ag0 g7 k8
  go_wp2_with fail
  refine (same_yes ag8 lo8 (canon_vn2 CAG.out CLO.out (by rw [HAG.out, HLO.out, HXX.out, HYY.out, ← Nat.mul_mod]))).mono ?_
  rintro e w9 ⟨rfl, k9⟩
  have a9 := a8.now k9
  have g9 := below_step g8 k9
  clear lo8 ag8 a8 g8 k9
  go_wp2
  go_ret
  exact ⟨rfl, g9⟩

set_option maxRecDepth 100000 in
set_option maxHeartbeats 6400000 in
theorem shifts_near {w : World} {va vb : Value} {xs ys : List Int} (ha : Sl w.heap.size w va xs) (hb : Sl w.heap.size w vb ys) (la : xs.length ≤ 17592186043904) (lb : ys.length ≤ 17592186043904) {n : Nat} (hn : n ≤ 9223372036854775807) (hn20 : n ≤ 1048576) :
    Calls Try.prog 3 #[va, vb, .int .i64 (n : Int)] w fun e w' => e = .returned (.bool true) ∧ Below w.heap.size w w' := by
  have WA := hid ha.1
  have WB := hid hb.1
  go_enter Try.func3, Try.ntmps3
  go_wp2_with fail
  refine (wake_any _).mono ?_
  rintro e w1 ⟨rfl, k1⟩
  have a1 := ha.now k1
  have b1 := hb.now k1
  have g1 := k1
  clear ha hb k1
  go_wp2_with fail
  refine (mulLow_to a1 b1 (by omega) hn).mono ?_
  rintro e w2 ⟨LO, loa, loc, rfl, lo0, CLO, HLO, llo, k2⟩
  have a2 := a1.now k2
  have b2 := b1.now k2
  have g2 := below_step g1 k2
  replace CLO := hid CLO
  replace HLO := hid HLO
  clear a1 b1 g1 k2
  go_wp2_with fail
  refine (mul_now a2 b2 (by omega)).mono ?_
  rintro e w3 ⟨PP, ppa, ppc, rfl, pp0, CPP, HPP, lpp, k3⟩
  have a3 := a2.now k3
  have b3 := b2.now k3
  have lo3 := lo0.now k3
  have g3 := below_step g2 k3
  replace CPP := hid CPP
  replace HPP := hid HPP
  clear a2 b2 lo0 g2 k3
  have VPP := hid (vn_mul WA.out WB.out CPP.out.1 HPP.out)
  go_wp2_with fail
  refine (low_to pp0 hn).mono ?_
  rintro e w4 ⟨CU, cua, cuc, rfl, cu0, CCU, HCU, lcu, k4⟩
  have a4 := a3.now k4
  have b4 := b3.now k4
  have lo4 := lo3.now k4
  have g4 := below_step g3 k4
  replace CCU := hid CCU
  replace HCU := hid HCU
  clear pp0 a3 b3 lo3 g3 k4
  go_wp2_with fail
  refine (low_to a4 hn).mono ?_
  rintro e w5 ⟨XX, xxa, xxc, rfl, xx0, CXX, HXX, lxx, k5⟩
  have a5 := a4.now k5
  have b5 := b4.now k5
  have lo5 := lo4.now k5
  have cu5 := cu0.now k5
  have g5 := below_step g4 k5
  replace CXX := hid CXX
  replace HXX := hid HXX
  clear a4 b4 lo4 cu0 g4 k5
  go_wp2_with fail
  refine (low_to b5 hn).mono ?_
  rintro e w6 ⟨YY, yya, yyc, rfl, yy0, CYY, HYY, lyy, k6⟩
  have a6 := a5.now k6
  have lo6 := lo5.now k6
  have cu6 := cu5.now k6
  have xx6 := xx0.now k6
  have g6 := below_step g5 k6
  replace CYY := hid CYY
  replace HYY := hid HYY
  clear b5 a5 lo5 cu5 xx0 g5 k6
  go_wp2_with fail
  refine (mulLow_to xx6 yy0 (by omega) hn).mono ?_
  rintro e w7 ⟨AG, aga, agc, rfl, ag0, CAG, HAG, lag, k7⟩
  have a7 := a6.now k7
  have lo7 := lo6.now k7
  have cu7 := cu6.now k7
  have g7 := below_step g6 k7
  replace CAG := hid CAG
  replace HAG := hid HAG
  clear xx6 yy0 a6 lo6 cu6 g6 k7
  go_wp2_with fail
  refine (same_yes lo7 cu7 (canon_vn2 CLO.out CCU.out (by rw [HLO.out, HCU.out, VPP.out]))).mono ?_
  rintro e w8 ⟨rfl, k8⟩
  have a8 := a7.now k8
  have lo8 := lo7.now k8
  have ag8 := ag0.now k8
  have g8 := below_step g7 k8
  clear cu7 a7 lo7 ag0 g7 k8
  go_wp2_with fail
  refine (same_yes ag8 lo8 (canon_vn2 CAG.out CLO.out (by rw [HAG.out, HLO.out, HXX.out, HYY.out, ← Nat.mul_mod]))).mono ?_
  rintro e w9 ⟨rfl, k9⟩
  have a9 := a8.now k9
  have g9 := below_step g8 k9
  clear lo8 ag8 a8 g8 k9
  go_wp2_with fail
  have kk := (Below.refl w9.heap.size w9).alloc (Nat.le_refl _) (.cells #[.int .u64 1] 30)
  have aq := a9.now kk
  clear a9
  have gq := below_step g9 kk
  clear g9 kk
  have q0 := lit_last w9 [1] #[.int .u64 1] rfl (canon_1.1) (by simp) 1 rfl
  refine (shl_to q0 n rfl hn20 (by simp)).mono ?_
  rintro e w10 ⟨TW, twa, twc, rfl, tw0, CTW, HTW, ltw, k10⟩
  have a10 := aq.now k10
  have g10 := below_step gq k10
  replace CTW := hid CTW
  replace HTW := hid HTW
  clear q0 aq gq k10
  simp only [List.length_cons, List.length_nil] at ltw
  go_wp2_with fail
  refine (shl_to a10 n rfl hn20 (by omega)).mono ?_
  rintro e w11 ⟨FA, faa, fac, rfl, fa0, CFA, HFA, lfa, k11⟩
  have a11 := a10.now k11
  have tw11 := tw0.now k11
  have g11 := below_step g10 k11
  replace CFA := hid CFA
  replace HFA := hid HFA
  clear a10 tw0 g10 k11
  go_wp2_with fail
  refine (mul_now tw11 a11 (by omega)).mono ?_
  rintro e w12 ⟨MM, mma, mmc, rfl, mm0, CMM, HMM, lmm, k12⟩
  have fa12 := fa0.now k12
  have g12 := below_step g11 k12
  replace CMM := hid CMM
  replace HMM := hid HMM
  clear tw11 a11 fa0 g11 k12
  have VMM := hid (vn_mul CTW.out.1 WA.out CMM.out.1 HMM.out)
  go_wp2_with fail
  refine (same_yes mm0 fa12 (canon_vn2 CMM.out CFA.out (by rw [VMM.out, HFA.out, HTW.out, Nat.mul_comm]; simp [vn]))).mono ?_
  rintro e w13 ⟨rfl, k13⟩
  have g13 := below_step g12 k13
  clear mm0 fa12 g12 k13
  go_wp2
  go_ret
  exact ⟨rfl, g13⟩

theorem mulnatShifts_any {w : World} {va vb : Value} {xs ys : List Int} (ha : Sl w.heap.size w va xs) (hb : Sl w.heap.size w vb ys) (la : xs.length ≤ 17592186043904) (lb : ys.length ≤ 17592186043904) {i : Int} (hi : -9223372036854775808 ≤ i ∧ i ≤ 9223372036854775807) :
    Calls Try.prog 3 #[va, vb, .int .i64 i] w fun e w' => e = .returned (.bool true) ∧ Below w.heap.size w w' := by
  by_cases h1 : i < 0
  · exact shifts_neg ha hb la lb h1
  · obtain ⟨n, rfl⟩ := Int.eq_ofNat_of_zero_le (show 0 ≤ i by omega)
    by_cases h2 : (1048576 : Int) < (n : Int)
    · exact shifts_far ha hb la lb (by omega) h2
    · exact shifts_near ha hb la lb (by omega) (by omega)
end Go.Proofs.Ytagfekcocdjhlab
