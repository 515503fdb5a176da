/-
  Long: the walk of MulnatLong.
-/
import Derived.Test.YtagfekcocdjhlabShifts
namespace Go.Proofs.Ytagfekcocdjhlab
open Go.RowKit
set_option linter.unusedVariables false

theorem two_le_pow {n : Nat} (h : 1 ≤ n) : 2 ≤ 2 ^ n := by
  have := Nat.pow_le_pow_right (show 0 < 2 by omega) h
  omega
theorem bitLen_ones {n : Nat} (h : 1 ≤ n) : bitLen (2 ^ n - 1) = n := by
  have h2 := two_le_pow h
  unfold bitLen
  rw [if_neg (by omega)]
  have hb : Nat.log2 (2 ^ n - 1) < n := (Nat.log2_lt (by omega)).2 (by omega)
  have hc : ¬ Nat.log2 (2 ^ n - 1) < n - 1 := fun q => by
    have := (Nat.log2_lt (by omega)).1 q
    have e : 2 ^ n = 2 * 2 ^ (n - 1) := by rw [← Nat.pow_succ']; congr 1; omega
    have := Nat.two_pow_pos (n - 1)
    omega
  omega
theorem vn_sub {xs ys zs : List Int} (hx : WF xs) (hy : WF ys) (hz : WF zs) (h : val zs = val xs - val ys) : vn zs = vn xs - vn ys := by
  rw [val_vn hx, val_vn hy, val_vn hz] at h
  omega
theorem vn_add {xs ys zs : List Int} (hx : WF xs) (hy : WF ys) (hz : WF zs) (h : val zs = val xs + val ys) : vn zs = vn xs + vn ys := by
  rw [val_vn hx, val_vn hy, val_vn hz] at h
  omega
theorem vn_le {xs ys : List Int} (hx : WF xs) (hy : WF ys) (h : vn xs ≤ vn ys) : val xs ≤ val ys := by
  rw [val_vn hx, val_vn hy]
  omega
theorem long_prod {p q : Nat} (hp : 2 ≤ p) (hq : 2 ≤ q) : (p - 1) * (q - 1) = p * q + 1 - p - q := by
  obtain ⟨a, rfl⟩ : ∃ a, p = a + 1 := ⟨p - 1, by omega⟩
  obtain ⟨b, rfl⟩ : ∃ b, q = b + 1 := ⟨q - 1, by omega⟩
  have : (a + 1) * (b + 1) = a * b + a + b + 1 := by grind
  rw [this]
  simp
  omega
theorem long_le {p q : Nat} (hp : 2 ≤ p) (hq : 2 ≤ q) : p + q ≤ p * q := by
  obtain ⟨a, rfl⟩ : ∃ a, p = a + 2 := ⟨p - 2, by omega⟩
  obtain ⟨b, rfl⟩ : ∃ b, q = b + 2 := ⟨q - 2, by omega⟩
  have : (a + 2) * (b + 2) = a * b + 2 * a + 2 * b + 4 := by grind
  rw [this]
  omega

theorem same_below {P : Program} {f : FuncId} {args : Array Value} {w : World} {r : Value} (h : Calls P f args w fun e w' => e = .returned r ∧ w' = w) : Calls P f args w fun e w' => e = .returned r ∧ Below w.heap.size w w' :=
  h.mono fun e w' ⟨h1, h2⟩ => ⟨h1, by subst h2; exact Below.refl _ _⟩

set_option maxRecDepth 100000 in
set_option maxHeartbeats 6400000 in
theorem long_yes (w : World) {m n : Nat} (hm : 1 ≤ m) (hn : 1 ≤ n) (hmn : m + n ≤ 1048576) :
    Calls Try.prog 5 #[.int .i64 (m : Int), .int .i64 (n : Int)] w fun e w' => e = .returned (.bool true) ∧ Below w.heap.size w w' := by
  have P1 := hid (two_le_pow hm)
  have P2 := hid (two_le_pow hn)
  go_enter Try.func5, Try.ntmps5
  go_wp2_with fail
  refine (wake_any _).mono ?_
  rintro e w1 ⟨rfl, k1⟩
  have g1 := k1
  clear  k1
  go_wp2_with fail
  have kk := (Below.refl w1.heap.size w1).alloc (Nat.le_refl _) (.cells #[.int .u64 1] 30)
  have gq := below_step g1 kk
  clear g1 kk
  have q0 := lit_last w1 [1] #[.int .u64 1] rfl (canon_1.1) (by simp) 1 rfl
  refine (shl_to q0 m rfl (by omega) (by simp)).mono ?_
  rintro e w2 ⟨XX, xxa, xxc, rfl, xx0, CXX, HXX, lxx, k2⟩
  have o2 := q0.now k2
  have g2 := below_step gq k2
  replace CXX := hid CXX
  replace HXX := hid HXX
  clear q0 gq k2
  have VXX : Hid (vn XX = 2 ^ m) := by unfold Hid; rw [HXX.out]; simp [vn]
  simp only [List.length_cons, List.length_nil] at lxx
  clear HXX
  go_wp2_with fail
  refine (shl_to o2 n rfl (by omega) (by simp)).mono ?_
  rintro e w3 ⟨YY, yya, yyc, rfl, yy0, CYY, HYY, lyy, k3⟩
  have o3 := o2.now k3
  have xx3 := xx0.now k3
  have g3 := below_step g2 k3
  replace CYY := hid CYY
  replace HYY := hid HYY
  clear o2 xx0 g2 k3
  have VYY : Hid (vn YY = 2 ^ n) := by unfold Hid; rw [HYY.out]; simp [vn]
  simp only [List.length_cons, List.length_nil] at lyy
  clear HYY
  go_wp2_with fail
  refine (shl_to o3 (m + n) (by omega) (by omega) (by simp)).mono ?_
  rintro e w4 ⟨ZZ, zza, zzc, rfl, zz0, CZZ, HZZ, lzz, k4⟩
  have o4 := o3.now k4
  have xx4 := xx3.now k4
  have yy4 := yy0.now k4
  have g4 := below_step g3 k4
  replace CZZ := hid CZZ
  replace HZZ := hid HZZ
  clear o3 xx3 yy0 g3 k4
  have VZZ : Hid (vn ZZ = 2 ^ (m + n)) := by unfold Hid; rw [HZZ.out]; simp [vn]
  simp only [List.length_cons, List.length_nil] at lzz
  clear HZZ
  go_wp2_with fail
  refine (sub_now xx4 o4 (vn_le canon_1.1 CXX.out.1 (by rw [VXX.out]; have := P1.out; simp [vn]; omega))).mono ?_
  rintro e w5 ⟨AA, aaa, aac, rfl, aa0, CAA, HAA, laa, k5⟩
  have o5 := o4.now k5
  have xx5 := xx4.now k5
  have yy5 := yy4.now k5
  have zz5 := zz0.now k5
  have g5 := below_step g4 k5
  replace CAA := hid CAA
  replace HAA := hid HAA
  clear o4 xx4 yy4 zz0 g4 k5
  have VAA := hid (vn_sub CXX.out.1 canon_1.1 CAA.out.1 HAA.out)
  clear HAA
  go_wp2_with fail
  refine (sub_now yy5 o5 (vn_le canon_1.1 CYY.out.1 (by rw [VYY.out]; have := P2.out; simp [vn]; omega))).mono ?_
  rintro e w6 ⟨BB, bba, bbc, rfl, bb0, CBB, HBB, lbb, k6⟩
  have o6 := o5.now k6
  have xx6 := xx5.now k6
  have yy6 := yy5.now k6
  have zz6 := zz5.now k6
  have aa6 := aa0.now k6
  have g6 := below_step g5 k6
  replace CBB := hid CBB
  replace HBB := hid HBB
  clear o5 xx5 yy5 zz5 aa0 g5 k6
  have VBB := hid (vn_sub CYY.out.1 canon_1.1 CBB.out.1 HBB.out)
  clear HBB
  go_wp2_with fail
  refine (add_now zz6 o6 (by omega) (by simp)).mono ?_
  rintro e w7 ⟨ZA, zav, rfl, za0, CZA, HZA, lza, k7⟩
  have xx7 := xx6.now k7
  have yy7 := yy6.now k7
  have aa7 := aa6.now k7
  have bb7 := bb0.now k7
  have g7 := below_step g6 k7
  replace CZA := hid CZA
  replace HZA := hid HZA
  clear zz6 o6 xx6 yy6 aa6 bb0 g6 k7
  have VZA := hid (vn_add CZZ.out.1 canon_1.1 CZA.out.1 HZA.out)
  clear HZA
  have Q1 : Hid (vn ZA = 2 ^ m * 2 ^ n + 1) := by unfold Hid; rw [VZA.out, VZZ.out, Nat.pow_add]; simp [vn]
  have Q2 := hid (long_le P1.out P2.out)
  go_wp2_with fail
  refine (sub_now za0 xx7 (vn_le CXX.out.1 CZA.out.1 (by rw [Q1.out, VXX.out]; have := Q2.out; have := P1.out; have := P2.out; omega))).mono ?_
  rintro e w8 ⟨ZB, zba, zbc, rfl, zb0, CZB, HZB, lzb, k8⟩
  have yy8 := yy7.now k8
  have aa8 := aa7.now k8
  have bb8 := bb7.now k8
  have g8 := below_step g7 k8
  replace CZB := hid CZB
  replace HZB := hid HZB
  clear za0 xx7 yy7 aa7 bb7 g7 k8
  have VZB := hid (vn_sub CZA.out.1 CXX.out.1 CZB.out.1 HZB.out)
  clear HZB
  go_wp2_with fail
  refine (sub_now zb0 yy8 (vn_le CYY.out.1 CZB.out.1 (by rw [VZB.out, Q1.out, VXX.out, VYY.out]; have := Q2.out; have := P1.out; have := P2.out; omega))).mono ?_
  rintro e w9 ⟨ZC, zca, zcc, rfl, zc0, CZC, HZC, lzc, k9⟩
  have aa9 := aa8.now k9
  have bb9 := bb8.now k9
  have g9 := below_step g8 k9
  replace CZC := hid CZC
  replace HZC := hid HZC
  clear zb0 yy8 aa8 bb8 g8 k9
  have VZC := hid (vn_sub CZB.out.1 CYY.out.1 CZC.out.1 HZC.out)
  clear HZC
  have HBL : Hid (bitLen (vn AA) = m) := by unfold Hid; rw [VAA.out, VXX.out, show vn [1] = 1 by simp [vn]]; exact bitLen_ones hm
  go_wp2_with fail
  refine (same_below (bitLen_any aa9)).mono ?_
  rintro e w10 ⟨rfl, k10⟩
  have aa10 := aa9.now k10
  have bb10 := bb9.now k10
  have zc10 := zc0.now k10
  have g10 := below_step g9 k10
  clear aa9 bb9 zc0 g9 k10
  rw [HBL.out]
  have hmm : ((m : Int) != (m : Int)) = false := by simp
  go_wp2_with fail
  refine (mul_now aa10 bb10 (by omega)).mono ?_
  rintro e w11 ⟨MM, mma, mmc, rfl, mm0, CMM, HMM, lmm, k11⟩
  have zc11 := zc10.now k11
  have g11 := below_step g10 k11
  replace CMM := hid CMM
  replace HMM := hid HMM
  clear aa10 bb10 zc10 g10 k11
  have VMM := hid (vn_mul CAA.out.1 CBB.out.1 CMM.out.1 HMM.out)
  go_wp2_with fail
  refine (same_yes mm0 zc11 (canon_vn2 CMM.out CZC.out (by rw [VMM.out, VAA.out, VBB.out, VZC.out, VZB.out, Q1.out, VXX.out, VYY.out, show vn [1] = 1 by simp [vn]]; exact long_prod P1.out P2.out))).mono ?_
  rintro e w12 ⟨rfl, k12⟩
  have g12 := below_step g11 k12
  clear mm0 zc11 g11 k12
  go_wp2
  go_ret
  exact ⟨rfl, g12⟩

set_option maxRecDepth 100000 in
set_option maxHeartbeats 6400000 in
theorem long_i (w : World) {i j : Int} (h : i < 1) : Calls Try.prog 5 #[.int .i64 i, .int .i64 j] w fun e w' => e = .returned (.bool true) ∧ Below w.heap.size w w' := by
  go_enter Try.func5, Try.ntmps5
  go_wp2_with fail
  refine (wake_any _).mono ?_
  rintro e w1 ⟨rfl, k1⟩
  have g1 := k1
  clear  k1
  go_wp2
  go_ret
  exact ⟨rfl, g1⟩

set_option maxRecDepth 100000 in
set_option maxHeartbeats 6400000 in
theorem long_j (w : World) {i j : Int} (h0 : ¬ i < 1) (h : j < 1) : Calls Try.prog 5 #[.int .i64 i, .int .i64 j] w fun e w' => e = .returned (.bool true) ∧ Below w.heap.size w w' := by
  go_enter Try.func5, Try.ntmps5
  go_wp2_with fail
  refine (wake_any _).mono ?_
  rintro e w1 ⟨rfl, k1⟩
  have g1 := k1
  clear  k1
  go_wp2
  go_ret
  exact ⟨rfl, g1⟩

set_option maxRecDepth 100000 in
set_option maxHeartbeats 6400000 in
theorem long_big (w : World) {i j : Int} (h0 : ¬ i < 1) (h1 : ¬ j < 1) (h : 1048576 < i) : Calls Try.prog 5 #[.int .i64 i, .int .i64 j] w fun e w' => e = .returned (.bool true) ∧ Below w.heap.size w w' := by
  go_enter Try.func5, Try.ntmps5
  go_wp2_with fail
  refine (wake_any _).mono ?_
  rintro e w1 ⟨rfl, k1⟩
  have g1 := k1
  clear  k1
  go_wp2
  go_ret
  exact ⟨rfl, g1⟩

set_option maxRecDepth 100000 in
set_option maxHeartbeats 6400000 in
theorem long_sum (w : World) {i j : Int} (h0 : ¬ i < 1) (h1 : ¬ j < 1) (h2 : ¬ 1048576 < i) (h : 1048576 - i < j) : Calls Try.prog 5 #[.int .i64 i, .int .i64 j] w fun e w' => e = .returned (.bool true) ∧ Below w.heap.size w w' := by
  go_enter Try.func5, Try.ntmps5
  go_wp2_with fail
  refine (wake_any _).mono ?_
  rintro e w1 ⟨rfl, k1⟩
  have g1 := k1
  clear  k1
  go_wp2
  go_ret
  exact ⟨rfl, g1⟩

theorem mulnatLong_any (w : World) (i j : Int) : Calls Try.prog 5 #[.int .i64 i, .int .i64 j] w fun e w' => e = .returned (.bool true) ∧ Below w.heap.size w w' := by
  by_cases h0 : i < 1
  · exact long_i w h0
  · by_cases h1 : j < 1
    · exact long_j w h0 h1
    · by_cases h2 : 1048576 < i
      · exact long_big w h0 h1 h2
      · by_cases h3 : 1048576 - i < j
        · exact long_sum w h0 h1 h2 h3
        · obtain ⟨m, rfl⟩ := Int.eq_ofNat_of_zero_le (show 0 ≤ i by omega)
          obtain ⟨n, rfl⟩ := Int.eq_ofNat_of_zero_le (show 0 ≤ j by omega)
          exact long_yes w (by omega) (by omega) (by omega)
end Go.Proofs.Ytagfekcocdjhlab
