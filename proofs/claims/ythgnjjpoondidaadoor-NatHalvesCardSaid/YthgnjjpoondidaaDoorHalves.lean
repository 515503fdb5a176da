/-
  Halves: the walk of NatHalves.
-/
import Derived.Test.YthgnjjpoondidaaDoorHalves0
namespace Go.Proofs.YthgnjjpoondidaaDoor
open Go.RowKit

set_option maxRecDepth 100000 in
set_option maxHeartbeats 8000000 in
theorem natHalves_any {w : World} {va : Value} {xs : List Int} {m i : Int} (ha : Sl w.heap.size w va xs) (hT : Tab w) (la : xs.length ≤ 17592186043904) (hm : -9223372036854775808 ≤ m ∧ m ≤ 9223372036854775807) (hi : -9223372036854775808 ≤ i ∧ i ≤ 9223372036854775807) :
    Calls Tryd.prog 5 #[va, .int .i64 m, .int .i64 i] w fun e w' => e = .returned (.bool true) ∧ Below w.heap.size w w' := by
  have wx := ha.1
  obtain ⟨hm0, hm1⟩ := hm
  obtain ⟨hi0, hi1⟩ := hi
  have HLst := hid (canon_lst wx)
  have HVL := hid (vn_lst wx)
  have hvlt := vn_lt wx
  have hK := bitLen_le hvlt
  have HVLT := hid hvlt
  clear hvlt wx
  by_cases hneg : i < 0
  · go_enter Tryd.func5, Tryd.ntmps5
    go_wp2_with fail
    refine (awake_any _).mono ?_
    rintro e w1 ⟨rfl, k1⟩
    have a1 := ha.now k1
    have t1 := hT.now k1
    have g1 := k1
    clear ha hT k1
    go_wp2_with fail
    refine (refused_any a1 (by omega) hm1).mono ?_
    rintro e w2 ⟨rfl, k2⟩
    have a2 := a1.now k2
    have t2 := t1.now k2
    have g2 := below_step g1 k2
    clear a1 t1 g1 k2
    go_wp2_with fail
    refine (refused_any a2 (by omega) hi1).mono ?_
    rintro e w3 ⟨rfl, k3⟩
    have a3 := a2.now k3
    have t3 := t2.now k3
    have g3 := below_step g2 k3
    clear a2 t2 g2 k3
    go_wp2
    go_ret
    exact ⟨rfl, g3⟩
  · obtain ⟨n, rfl⟩ := Int.eq_ofNat_of_zero_le (show 0 ≤ i by omega)
    go_enter Tryd.func5, Tryd.ntmps5
    go_wp2_with fail
    refine (awake_any _).mono ?_
    rintro e w1 ⟨rfl, k1⟩
    have a1 := ha.now k1
    have t1 := hT.now k1
    have g1 := k1
    clear ha hT k1
    go_wp2_with fail
    refine (refused_any a1 (by omega) hm1).mono ?_
    rintro e w2 ⟨rfl, k2⟩
    have a2 := a1.now k2
    have t2 := t1.now k2
    have g2 := below_step g1 k2
    clear a1 t1 g1 k2
    go_wp2_with fail
    refine (refused_any a2 (by omega) hi1).mono ?_
    rintro e w3 ⟨rfl, k3⟩
    have a3 := a2.now k3
    have t3 := t2.now k3
    have g3 := below_step g2 k3
    clear a2 t2 g2 k3
    go_wp2_with fail
    refine (bitLen_now a3).mono ?_
    rintro e w4 ⟨rfl, k4⟩
    have a4 := a3.now k4
    have t4 := t3.now k4
    have g4 := below_step g3 k4
    clear a3 t3 g3 k4
    go_wp2_with fail
    refine (shr_now a4 (n := n) (by omega)).mono ?_
    rintro e w5 ⟨Q, qa, qc, rfl, q0, cq, HQ, lq, k5⟩
    have a5 := a4.now k5
    have t5 := t4.now k5
    have g5 := below_step g4 k5
    replace HQ := hid HQ
    clear a4 t4 g4 k5
    go_wp2_with fail
    refine (low_now a5 (n := n) (by omega)).mono ?_
    rintro e w6 ⟨R, ra, rc, rfl, r0, cr, HR, lr, k6⟩
    have a6 := a5.now k6
    have t6 := t5.now k6
    have q6 := q0.now k6
    have g6 := below_step g5 k6
    replace HR := hid HR
    clear a5 t5 q0 g5 k6
    go_wp2_with fail
    refine (bitLen_now r0).mono ?_
    rintro e w7 ⟨rfl, k7⟩
    have a7 := a6.now k7
    have t7 := t6.now k7
    have q7 := q6.now k7
    have r7 := r0.now k7
    have g7 := below_step g6 k7
    clear a6 t6 q6 r0 g6 k7
    have hbr : bitLen (vn R) ≤ n := by rw [HR.out]; exact bitLen_le (Nat.mod_lt _ (Nat.two_pow_pos n))
    generalize bitLen (vn R) = br at *
    by_cases hkn : bitLen (vn xs) ≤ n
    focus
      obtain rfl : Q = [] := canon_vn cq ⟨WF.nil, rfl⟩ (by rw [HQ.out, Nat.div_eq_of_lt (lt_of_bitLen hkn)]; rfl)
      have hkn2 : (bitLen (vn xs) : Int) ≤ (n : Int) := by omega
      go_wp2_with fail
      refine (least_now a7).mono ?_
      rintro e w8 ⟨vl, rfl, l0, k8⟩
      have a8 := a7.now k8
      have t8 := t7.now k8
      have q8 := q7.now k8
      have r8 := r7.now k8
      have g8 := below_step g7 k8
      clear a7 t7 q7 r7 g7 k8
      go_wp2_with fail
      refine (same_yes r8 l0 (canon_vn cr HLst.out (by rw [HR.out, Nat.mod_eq_of_lt (lt_of_bitLen hkn), HVL.out]))).mono ?_
      rintro e wX ⟨rfl, kX⟩
      have aX := a8.now kX
      have tX := t8.now kX
      have qX := q8.now kX
      have rX := r8.now kX
      have gX := below_step g8 kX
      clear l0 a8 t8 q8 r8 g8 kX
    rotate_left
    focus
      have hkn2 : ¬ (bitLen (vn xs) : Int) ≤ (n : Int) := by omega
      go_wp2_with fail
      refine (bitLen_now q7).mono ?_
      rintro e wX ⟨rfl, kX⟩
      have aX := a7.now kX
      have tX := t7.now kX
      have qX := q7.now kX
      have rX := r7.now kX
      have gX := below_step g7 kX
      clear a7 t7 q7 r7 g7 kX
      have hbq : ((bitLen (vn Q) : Int) != (bitLen (vn xs) : Int) - (n : Int)) = false := by rw [HQ.out, bitLen_div (by omega)]; rw [bne_eq_false_iff_eq]; omega
      generalize bitLen (vn Q) = bq at *
    rotate_left
    all_goals
      clear hkn
      by_cases hbig : (1048576 : Int) < (n : Int)
      · go_wp2
        go_ret
        exact ⟨rfl, gX⟩
      go_wp2_with fail
      refine (shl_now qX (n := n) (by omega) (by omega)).mono ?_
      rintro e w21 ⟨S, sa, sc, rfl, s0, cs, HS, ls, k21⟩
      have a21 := aX.now k21
      have t21 := tX.now k21
      have q21 := qX.now k21
      have r21 := rX.now k21
      have g21 := below_step gX k21
      replace HS := hid HS
      clear aX tX qX rX gX k21
      go_wp2_with fail
      refine (add_vn s0 r21 (by omega) (by omega)).mono ?_
      rintro e w22 ⟨T, vt, rfl, u0, ct, HT, k22⟩
      have a22 := a21.now k22
      have t22 := t21.now k22
      have q22 := q21.now k22
      have g22 := below_step g21 k22
      replace HT := hid HT
      clear s0 r21 a21 t21 q21 g21 k22
      go_wp2_with fail
      refine (least_now a22).mono ?_
      rintro e w23 ⟨vl, rfl, l0, k23⟩
      have a23 := a22.now k23
      have t23 := t22.now k23
      have q23 := q22.now k23
      have u23 := u0.now k23
      have g23 := below_step g22 k23
      clear a22 t22 q22 u0 g22 k23
      go_wp2_with fail
      refine (same_yes u23 l0 (canon_vn ct HLst.out (by rw [HT.out, HS.out, HQ.out, HR.out, halves_sum, HVL.out]))).mono ?_
      rintro e w24 ⟨rfl, k24⟩
      have a24 := a23.now k24
      have t24 := t23.now k24
      have q24 := q23.now k24
      have g24 := below_step g23 k24
      clear u23 l0 a23 t23 q23 g23 k24
      clear ct HT cs HS ls cr HR lr
      go_wp2_with fail
      refine (shl_now a24 (n := n) (by omega) (by omega)).mono ?_
      rintro e w25 ⟨U, ua, uc, rfl, u0, cu, HU, lu, k25⟩
      have a25 := a24.now k25
      have t25 := t24.now k25
      have q25 := q24.now k25
      have g25 := below_step g24 k25
      replace HU := hid HU
      clear a24 t24 q24 g24 k25
      by_cases hk0 : bitLen (vn xs) ≠ 0
      focus
        have hkp : (0 : Int) < (bitLen (vn xs) : Int) := by omega
        have hv0 : vn xs ≠ 0 := by intro e; rw [e] at hk0; exact hk0 rfl
        go_wp2_with fail
        refine (bitLen_now u0).mono ?_
        rintro e w26 ⟨rfl, k26⟩
        have a26 := a25.now k26
        have t26 := t25.now k26
        have q26 := q25.now k26
        have u26 := u0.now k26
        have g26 := below_step g25 k26
        clear a25 t25 q25 u0 g25 k26
        have hbu : ((bitLen (vn U) : Int) != (bitLen (vn xs) : Int) + (n : Int)) = false := by rw [HU.out, bitLen_mul hv0]; rw [bne_eq_false_iff_eq]; omega
        generalize bitLen (vn U) = bu at *
        go_wp2_with fail
        refine (twos_now u26 t26).mono ?_
        rintro e w27 ⟨tu, rfl, HTU, k27⟩
        have a27 := a26.now k27
        have t27 := t26.now k27
        have q27 := q26.now k27
        have u27 := u26.now k27
        have g27 := below_step g26 k27
        replace HTU := hid HTU
        clear a26 t26 q26 u26 g26 k27
        go_wp2_with fail
        refine (twos_now a27 t27).mono ?_
        rintro e w28 ⟨ta, rfl, HTA, k28⟩
        have a28 := a27.now k28
        have t28 := t27.now k28
        have q28 := q27.now k28
        have u28 := u27.now k28
        have g28 := below_step g27 k28
        replace HTA := hid HTA
        clear a27 t27 q27 u27 g27 k28
        have htu : tu = ta + n := isTwos_mul hv0 HTA.out (by rw [← HU.out]; exact HTU.out)
        subst htu
        have htb := isTwos_bounds HVLT.out HTA.out
        obtain ⟨htb0, htb1⟩ := htb
        have htn : (ta + (n : Int) != ta + (n : Int)) = false := by simp
        clear HTA HTU hbu
        go_wp2_with fail
        refine (shr_now u28 (n := n) (by omega)).mono ?_
        rintro e wY ⟨V, wa, wc, rfl, v0, cv, HV, lv, kY⟩
        have aY := a28.now kY
        have tY := t28.now kY
        have qY := q28.now kY
        have uY := u28.now kY
        have gY := below_step g28 kY
        replace HV := hid HV
        clear a28 t28 q28 u28 g28 kY
        clear htb0 htb1 htn hkp hv0
      rotate_left
      focus
        try (exfalso; omega)
        all_goals
          have hkp : ¬ (0 : Int) < (bitLen (vn xs) : Int) := by omega
          go_wp2_with fail
          refine (shr_now u0 (n := n) (by omega)).mono ?_
          rintro e wY ⟨V, wa, wc, rfl, v0, cv, HV, lv, kY⟩
          have aY := a25.now kY
          have tY := t25.now kY
          have qY := q25.now kY
          have uY := u0.now kY
          have gY := below_step g25 kY
          replace HV := hid HV
          clear a25 t25 q25 u0 g25 kY
          clear hkp
      rotate_left
      all_goals
        clear hk0
        go_wp2_with fail
        refine (least_now aY).mono ?_
        rintro e w41 ⟨vl, rfl, l0, k41⟩
        have a41 := aY.now k41
        have t41 := tY.now k41
        have q41 := qY.now k41
        have u41 := uY.now k41
        have v41 := v0.now k41
        have g41 := below_step gY k41
        clear aY tY qY uY v0 gY k41
        go_wp2_with fail
        refine (same_yes v41 l0 (canon_vn cv HLst.out (by rw [HV.out, HU.out, Nat.mul_div_cancel _ (Nat.two_pow_pos n), HVL.out]))).mono ?_
        rintro e w42 ⟨rfl, k42⟩
        have a42 := a41.now k42
        have t42 := t41.now k42
        have q42 := q41.now k42
        have u42 := u41.now k42
        have g42 := below_step g41 k42
        clear v41 l0 a41 t41 q41 u41 g41 k42
        clear cv HV lv
        by_cases hm3 : m < 0
        · go_wp2
          go_ret
          exact ⟨rfl, g42⟩
        by_cases hm4 : (1048576 : Int) < m
        · go_wp2
          go_ret
          exact ⟨rfl, g42⟩
        by_cases hm5 : (1048576 : Int) < m + (n : Int)
        · go_wp2
          go_ret
          exact ⟨rfl, g42⟩
        obtain ⟨j, rfl⟩ := Int.eq_ofNat_of_zero_le (show 0 ≤ m by omega)
        have hj1 : ¬ (1048576 : Int) < (j : Int) := by omega
        have hj2 : ¬ (1048576 : Int) < (j : Int) + (n : Int) := by omega
        clear hm3
        go_wp2_with fail
        refine (shl_now u42 (n := j) (by omega) (by omega)).mono ?_
        rintro e w43 ⟨X1, xa, xc, rfl, x0, cx, HX, lx, k43⟩
        have a43 := a42.now k43
        have t43 := t42.now k43
        have q43 := q42.now k43
        have g43 := below_step g42 k43
        replace HX := hid HX
        clear u42 a42 t42 q42 g42 k43
        go_wp2_with fail
        refine (shl_at a43 (j + n) (by omega) (by omega) (by omega)).mono ?_
        rintro e w44 ⟨Y1, ya, yc, rfl, y0, cy, HY, ly, k44⟩
        have a44 := a43.now k44
        have t44 := t43.now k44
        have q44 := q43.now k44
        have x44 := x0.now k44
        have g44 := below_step g43 k44
        replace HY := hid HY
        clear a43 t43 q43 x0 g43 k44
        go_wp2_with fail
        refine (shr_now q44 (n := j) (by omega)).mono ?_
        rintro e w45 ⟨Z1, za, zc, rfl, z0, cz, HZ, lz, k45⟩
        have a45 := a44.now k45
        have t45 := t44.now k45
        have x45 := x44.now k45
        have y45 := y0.now k45
        have g45 := below_step g44 k45
        replace HZ := hid HZ
        clear q44 a44 t44 x44 y0 g44 k45
        go_wp2_with fail
        refine (shr_at a45 (j + n) (by omega) (by omega)).mono ?_
        rintro e w46 ⟨D1, da, dc, rfl, d0, cd, HD, ld, k46⟩
        have a46 := a45.now k46
        have t46 := t45.now k46
        have x46 := x45.now k46
        have y46 := y45.now k46
        have z46 := z0.now k46
        have g46 := below_step g45 k46
        replace HD := hid HD
        clear a45 t45 x45 y45 z0 g45 k46
        go_wp2_with fail
        refine (same_yes x46 y46 (canon_vn cx cy (by rw [HX.out, HU.out, HY.out, Nat.mul_assoc, ← Nat.pow_add, Nat.add_comm]))).mono ?_
        rintro e w47 ⟨rfl, k47⟩
        have a47 := a46.now k47
        have t47 := t46.now k47
        have z47 := z46.now k47
        have d47 := d0.now k47
        have g47 := below_step g46 k47
        clear x46 y46 a46 t46 z46 d0 g46 k47
        go_wp2_with fail
        refine (same_yes z47 d47 (canon_vn cz cd (by rw [HZ.out, HQ.out, HD.out, Nat.div_div_eq_div_mul, ← Nat.pow_add, Nat.add_comm]))).mono ?_
        rintro e w48 ⟨rfl, k48⟩
        have a48 := a47.now k48
        have t48 := t47.now k48
        have g48 := below_step g47 k48
        clear z47 d47 a47 t47 g47 k48
        go_wp2
        go_ret
        exact ⟨rfl, g48⟩
end Go.Proofs.YthgnjjpoondidaaDoor
