/-
  Powers: the walk of MulnatPowers.
-/
import Derived.Test.YtagfekcocdjhlaaPow
namespace Go.Proofs.Ytagfekcocdjhlaa
open Go.RowKit
set_option linter.unusedVariables false

theorem pow_at {w : World} {va : Value} {xs : List Int} (ha : Sl w.heap.size w va xs) (hl : xs.length ≤ 1073741824) {i : Int} (n : Nat) (hi : i = (n : Int)) (hn : n ≤ 256) :
    Calls Try.prog 24 #[va, .int .i64 i] w fun e w' => ∃ zs a cap, e = .returned (.tuple #[.slice a zs.length cap, .int .i64 0]) ∧ Sl w'.heap.size w' (.slice a zs.length cap) zs ∧ Canon zs ∧ val zs = val xs ^ n ∧ zs.length ≤ 274877906945 ∧ Below w.heap.size w w' := by
  subst hi
  refine (pow_some ha hl hn).mono fun e w' ⟨zs, r, h1, m1, m2, m3, m4⟩ => ?_
  obtain ⟨a, cap, rfl⟩ := m1.form
  refine ⟨zs, a, cap, h1, m1.sl, m2, m3, ?_, m4⟩
  have h2 := pow_len (val_nonneg ha.1) (val_lt_pw ha.1) m2 m3
  have h3 := Nat.mul_le_mul hl hn
  omega
theorem pow_none {w : World} {v : Value} {i : Int} (hi : i < 0) : Calls Try.prog 24 #[v, .int .i64 i] w fun e w' => e = .returned (.tuple #[.slice none 0 0, .int .i64 3]) ∧ Below w.heap.size w w' :=
  (pow_neg v w hi).mono fun e w' ⟨h1, h2⟩ => ⟨h1, by subst h2; exact Below.refl _ _⟩
theorem pow_over {w : World} {v : Value} {i : Int} (hi : 256 < i) : Calls Try.prog 24 #[v, .int .i64 i] w fun e w' => e = .returned (.tuple #[.slice none 0 0, .int .i64 5]) ∧ Below w.heap.size w w' :=
  (pow_big v w hi).mono fun e w' ⟨h1, h2⟩ => ⟨h1, by subst h2; exact Below.refl _ _⟩
theorem sl_one {B : Nat} {w : World} {a : Option Addr} {n cap : Nat} {x : Int} (h : Sl B w (.slice a n cap) [x]) : ∃ b o, a = some ⟨b, o, none⟩ ∧ w.cell? ⟨b, o, none⟩ = some (.int .u64 x) := by
  obtain ⟨_, a', cap', he, hlc, _, hm⟩ := h
  simp only [Value.slice.injEq] at he
  obtain ⟨rfl, _, rfl⟩ := he
  rcases hm with e | ⟨b, off, rfl, _, hcell⟩
  · cases e
  exact ⟨b, off, rfl, hcell 0 (by simp)⟩
theorem mul_pow (a b : Int) : ∀ n : Nat, (a * b) ^ n = a ^ n * b ^ n
  | 0 => by simp
  | n + 1 => by rw [Int.pow_succ, Int.pow_succ, Int.pow_succ, mul_pow a b n]; grind

set_option maxRecDepth 100000 in
set_option maxHeartbeats 6400000 in
theorem powers_neg {w : World} {va vb : Value} {xs ys : List Int} (ha : Sl w.heap.size w va xs) (hb : Sl w.heap.size w vb ys) (la : xs.length ≤ 1048576) (lb : ys.length ≤ 1048576) {i : Int} (hi : i < 0) :
    Calls Try.prog 6 #[va, vb, .int .i64 i] w fun e w' => e = .returned (.bool true) ∧ Below w.heap.size w w' := by
  go_enter Try.func6, Try.ntmps6
  go_wp2_with fail
  refine (pow_at ha (by omega) 0 rfl (by omega)).mono ?_
  rintro e w1 ⟨ON, ona, onc, rfl, on0, CON, HON, lon, k1⟩
  have a1 := ha.now k1
  have b1 := hb.now k1
  have g1 := k1
  replace CON := hid CON
  replace HON := hid HON
  clear ha hb k1
  obtain rfl : ON = [1] := canon_inj CON.out canon_one (by rw [HON.out]; simp [val])
  obtain ⟨onb, ono, rfl, onq⟩ := sl_one on0
  clear on0
  go_wp2_with fail
  refine (pow_over (by omega)).mono ?_
  rintro e w2 ⟨rfl, k2⟩
  have a2 := a1.now k2
  have b2 := b1.now k2
  have g2 := below_step g1 k2
  clear a1 b1 g1 k2
  clear onq
  go_wp2_with fail
  refine (pow_none (by omega)).mono ?_
  rintro e w3 ⟨rfl, k3⟩
  have a3 := a2.now k3
  have b3 := b2.now k3
  have g3 := below_step g2 k3
  clear a2 b2 g2 k3
  go_wp2_with fail
  have kk := (Below.refl w3.heap.size w3).alloc (Nat.le_refl _) (.cells #[.int .u64 1] 35)
  have aq := a3.now kk
  clear a3
  have bq := b3.now kk
  clear b3
  have gq := below_step g3 kk
  clear g3 kk
  have q0 := lit_last w3 [1] #[.int .u64 1] rfl canon_one.1 (by simp) 1 rfl
  refine (pow_at q0 (by simp) 256 rfl (by omega)).mono ?_
  rintro e w4 ⟨UU, uua, uuc, rfl, uu0, CUU, HUU, luu, k4⟩
  have a4 := aq.now k4
  have b4 := bq.now k4
  have g4 := below_step gq k4
  replace CUU := hid CUU
  replace HUU := hid HUU
  clear q0 aq bq gq k4
  have HUV : Hid (val UU = val [1]) := by unfold Hid; rw [HUU.out]; decide +kernel
  obtain rfl : UU = [1] := canon_inj CUU.out canon_one HUV.out
  obtain ⟨uub, uuo, rfl, uuq⟩ := sl_one uu0
  clear uu0
  go_wp2_with fail
  refine (pow_none hi).mono ?_
  rintro e w5 ⟨rfl, k5⟩
  have g5 := below_step g4 k5
  clear a4 b4 g4 k5
  clear uuq
  go_wp2
  go_ret
  refine ⟨?_, g5⟩
  show Ending.returned (Value.bool (!decide (256 < i))) = _
  rw [decide_eq_false (show ¬ 256 < i by omega)]
  rfl

set_option maxRecDepth 100000 in
set_option maxHeartbeats 6400000 in
theorem powers_big {w : World} {va vb : Value} {xs ys : List Int} (ha : Sl w.heap.size w va xs) (hb : Sl w.heap.size w vb ys) (la : xs.length ≤ 1048576) (lb : ys.length ≤ 1048576) {i : Int} (hi : 256 < i) :
    Calls Try.prog 6 #[va, vb, .int .i64 i] w fun e w' => e = .returned (.bool true) ∧ Below w.heap.size w w' := by
  go_enter Try.func6, Try.ntmps6
  go_wp2_with fail
  refine (pow_at ha (by omega) 0 rfl (by omega)).mono ?_
  rintro e w1 ⟨ON, ona, onc, rfl, on0, CON, HON, lon, k1⟩
  have a1 := ha.now k1
  have b1 := hb.now k1
  have g1 := k1
  replace CON := hid CON
  replace HON := hid HON
  clear ha hb k1
  obtain rfl : ON = [1] := canon_inj CON.out canon_one (by rw [HON.out]; simp [val])
  obtain ⟨onb, ono, rfl, onq⟩ := sl_one on0
  clear on0
  go_wp2_with fail
  refine (pow_over (by omega)).mono ?_
  rintro e w2 ⟨rfl, k2⟩
  have a2 := a1.now k2
  have b2 := b1.now k2
  have g2 := below_step g1 k2
  clear a1 b1 g1 k2
  clear onq
  go_wp2_with fail
  refine (pow_none (by omega)).mono ?_
  rintro e w3 ⟨rfl, k3⟩
  have a3 := a2.now k3
  have b3 := b2.now k3
  have g3 := below_step g2 k3
  clear a2 b2 g2 k3
  go_wp2_with fail
  have kk := (Below.refl w3.heap.size w3).alloc (Nat.le_refl _) (.cells #[.int .u64 1] 35)
  have aq := a3.now kk
  clear a3
  have bq := b3.now kk
  clear b3
  have gq := below_step g3 kk
  clear g3 kk
  have q0 := lit_last w3 [1] #[.int .u64 1] rfl canon_one.1 (by simp) 1 rfl
  refine (pow_at q0 (by simp) 256 rfl (by omega)).mono ?_
  rintro e w4 ⟨UU, uua, uuc, rfl, uu0, CUU, HUU, luu, k4⟩
  have a4 := aq.now k4
  have b4 := bq.now k4
  have g4 := below_step gq k4
  replace CUU := hid CUU
  replace HUU := hid HUU
  clear q0 aq bq gq k4
  have HUV : Hid (val UU = val [1]) := by unfold Hid; rw [HUU.out]; decide +kernel
  obtain rfl : UU = [1] := canon_inj CUU.out canon_one HUV.out
  obtain ⟨uub, uuo, rfl, uuq⟩ := sl_one uu0
  clear uu0
  go_wp2_with fail
  refine (pow_over hi).mono ?_
  rintro e w5 ⟨rfl, k5⟩
  have g5 := below_step g4 k5
  clear a4 b4 g4 k5
  clear uuq
  go_wp2
  go_ret
  refine ⟨?_, g5⟩
  show Ending.returned (Value.bool (!decide (i < 0))) = _
  rw [decide_eq_false (show ¬ i < 0 by omega)]
  rfl

set_option maxRecDepth 100000 in
set_option maxHeartbeats 6400000 in
theorem powers_some {w : World} {va vb : Value} {xs ys : List Int} (ha : Sl w.heap.size w va xs) (hb : Sl w.heap.size w vb ys) (la : xs.length ≤ 1048576) (lb : ys.length ≤ 1048576) {n : Nat} (hn : n ≤ 256) :
    Calls Try.prog 6 #[va, vb, .int .i64 (n : Int)] w fun e w' => e = .returned (.bool true) ∧ Below w.heap.size w w' := by
  go_enter Try.func6, Try.ntmps6
  go_wp2_with fail
  refine (pow_at ha (by omega) 0 rfl (by omega)).mono ?_
  rintro e w1 ⟨ON, ona, onc, rfl, on0, CON, HON, lon, k1⟩
  have a1 := ha.now k1
  have b1 := hb.now k1
  have g1 := k1
  replace CON := hid CON
  replace HON := hid HON
  clear ha hb k1
  obtain rfl : ON = [1] := canon_inj CON.out canon_one (by rw [HON.out]; simp [val])
  obtain ⟨onb, ono, rfl, onq⟩ := sl_one on0
  clear on0
  go_wp2_with fail
  refine (pow_over (by omega)).mono ?_
  rintro e w2 ⟨rfl, k2⟩
  have a2 := a1.now k2
  have b2 := b1.now k2
  have g2 := below_step g1 k2
  clear a1 b1 g1 k2
  clear onq
  go_wp2_with fail
  refine (pow_none (by omega)).mono ?_
  rintro e w3 ⟨rfl, k3⟩
  have a3 := a2.now k3
  have b3 := b2.now k3
  have g3 := below_step g2 k3
  clear a2 b2 g2 k3
  go_wp2_with fail
  have kk := (Below.refl w3.heap.size w3).alloc (Nat.le_refl _) (.cells #[.int .u64 1] 35)
  have aq := a3.now kk
  clear a3
  have bq := b3.now kk
  clear b3
  have gq := below_step g3 kk
  clear g3 kk
  have q0 := lit_last w3 [1] #[.int .u64 1] rfl canon_one.1 (by simp) 1 rfl
  refine (pow_at q0 (by simp) 256 rfl (by omega)).mono ?_
  rintro e w4 ⟨UU, uua, uuc, rfl, uu0, CUU, HUU, luu, k4⟩
  have a4 := aq.now k4
  have b4 := bq.now k4
  have g4 := below_step gq k4
  replace CUU := hid CUU
  replace HUU := hid HUU
  clear q0 aq bq gq k4
  have HUV : Hid (val UU = val [1]) := by unfold Hid; rw [HUU.out]; decide +kernel
  obtain rfl : UU = [1] := canon_inj CUU.out canon_one HUV.out
  obtain ⟨uub, uuo, rfl, uuq⟩ := sl_one uu0
  clear uu0
  go_wp2_with fail
  refine (pow_at a4 (by omega) n rfl (by omega)).mono ?_
  rintro e w5 ⟨PP, ppa, ppc, rfl, pp0, CPP, HPP, lpp, k5⟩
  have a5 := a4.now k5
  have b5 := b4.now k5
  have g5 := below_step g4 k5
  replace CPP := hid CPP
  replace HPP := hid HPP
  clear a4 b4 g4 k5
  clear uuq
  go_wp2_with fail
  refine (pow_at a5 (by omega) (n / 3) (by omega) (by omega)).mono ?_
  rintro e w6 ⟨XX, xxa, xxc, rfl, xx0, CXX, HXX, lxx, k6⟩
  have a6 := a5.now k6
  have b6 := b5.now k6
  have pp6 := pp0.now k6
  have g6 := below_step g5 k6
  replace CXX := hid CXX
  replace HXX := hid HXX
  clear a5 b5 pp0 g5 k6
  go_wp2_with fail
  refine (pow_at a6 (by omega) (n - n / 3) (by omega) (by omega)).mono ?_
  rintro e w7 ⟨YY, yya, yyc, rfl, yy0, CYY, HYY, lyy, k7⟩
  have a7 := a6.now k7
  have b7 := b6.now k7
  have pp7 := pp6.now k7
  have xx7 := xx0.now k7
  have g7 := below_step g6 k7
  replace CYY := hid CYY
  replace HYY := hid HYY
  clear a6 b6 pp6 xx0 g6 k7
  go_wp2_with fail
  refine (mul_now xx7 yy0 (by omega)).mono ?_
  rintro e w8 ⟨MM, mma, mmc, rfl, mm0, CMM, HMM, lmm, k8⟩
  have a8 := a7.now k8
  have b8 := b7.now k8
  have pp8 := pp7.now k8
  have xx8 := xx7.now k8
  have g8 := below_step g7 k8
  replace CMM := hid CMM
  replace HMM := hid HMM
  clear yy0 a7 b7 pp7 xx7 g7 k8
  go_wp2_with fail
  refine (same_yes mm0 pp8 (canon_inj CMM.out CPP.out (by rw [HMM.out, HPP.out, HXX.out, HYY.out, ← Int.pow_add]; congr 1; omega))).mono ?_
  rintro e w9 ⟨rfl, k9⟩
  have a9 := a8.now k9
  have b9 := b8.now k9
  have xx9 := xx8.now k9
  have g9 := below_step g8 k9
  clear mm0 pp8 a8 b8 xx8 g8 k9
  go_wp2_with fail
  refine (pow_at b9 (by omega) (n / 3) (by omega) (by omega)).mono ?_
  rintro e w10 ⟨ZZ, zza, zzc, rfl, zz0, CZZ, HZZ, lzz, k10⟩
  have a10 := a9.now k10
  have b10 := b9.now k10
  have xx10 := xx9.now k10
  have g10 := below_step g9 k10
  replace CZZ := hid CZZ
  replace HZZ := hid HZZ
  clear a9 b9 xx9 g9 k10
  go_wp2_with fail
  refine (mul_now a10 b10 (by omega)).mono ?_
  rintro e w11 ⟨AB, aba, abc, rfl, ab0, CAB, HAB, lab, k11⟩
  have xx11 := xx10.now k11
  have zz11 := zz0.now k11
  have g11 := below_step g10 k11
  replace CAB := hid CAB
  replace HAB := hid HAB
  clear a10 b10 xx10 zz0 g10 k11
  go_wp2_with fail
  refine (pow_at ab0 (by omega) (n / 3) (by omega) (by omega)).mono ?_
  rintro e w12 ⟨VV, vva, vvc, rfl, vv0, CVV, HVV, lvv, k12⟩
  have xx12 := xx11.now k12
  have zz12 := zz11.now k12
  have g12 := below_step g11 k12
  replace CVV := hid CVV
  replace HVV := hid HVV
  clear ab0 xx11 zz11 g11 k12
  go_wp2_with fail
  refine (mul_now xx12 zz12 (by omega)).mono ?_
  rintro e w13 ⟨NN, nna, nnc, rfl, nn0, CNN, HNN, lnn, k13⟩
  have vv13 := vv0.now k13
  have g13 := below_step g12 k13
  replace CNN := hid CNN
  replace HNN := hid HNN
  clear xx12 zz12 vv0 g12 k13
  go_wp2_with fail
  refine (same_yes vv13 nn0 (canon_inj CVV.out CNN.out (by rw [HVV.out, HNN.out, HAB.out, HXX.out, HZZ.out, mul_pow]))).mono ?_
  rintro e w14 ⟨rfl, k14⟩
  have vv14 := vv13.now k14
  have nn14 := nn0.now k14
  have g14 := below_step g13 k14
  clear vv13 nn0 g13 k14
  go_wp2
  go_ret
  exact ⟨rfl, g14⟩

theorem mulnatPowers_any {w : World} {va vb : Value} {xs ys : List Int} (ha : Sl w.heap.size w va xs) (hb : Sl w.heap.size w vb ys) (la : xs.length ≤ 1048576) (lb : ys.length ≤ 1048576) (i : Int) :
    Calls Try.prog 6 #[va, vb, .int .i64 i] w fun e w' => e = .returned (.bool true) ∧ Below w.heap.size w w' := by
  by_cases h1 : i < 0
  · exact powers_neg ha hb la lb h1
  · by_cases h2 : 256 < i
    · exact powers_big ha hb la lb h2
    · obtain ⟨n, rfl⟩ := Int.eq_ofNat_of_zero_le (show 0 ≤ i by omega)
      exact powers_some ha hb la lb (by omega)
end Go.Proofs.Ytagfekcocdjhlaa
