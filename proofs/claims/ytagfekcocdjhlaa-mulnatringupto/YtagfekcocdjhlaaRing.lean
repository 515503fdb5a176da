/-
  Ring: the walk of MulnatRing.
-/
import Derived.Test.YtagfekcocdjhlaaLeast2
namespace Go.Proofs.Ytagfekcocdjhlaa
open Go.RowKit
set_option linter.unusedVariables false

theorem square_mono {a b : Int} (h0 : 0 ≤ b) (h : b ≤ a) : b * b ≤ a * a := Int.mul_le_mul h h h0 (by omega)

set_option maxHeartbeats 3200000 in
theorem squares_lt {w : World} {va vb : Value} {xs ys : List Int} (ha : Sl w.heap.size w va xs) (hb : Sl w.heap.size w vb ys) (la : xs.length ≤ 4398046511104) (lb : ys.length ≤ 4398046511104) (hge : val xs < val ys) :
    Calls Try.prog 23 #[va, vb] w fun e w' => e = .returned (.bool true) ∧ Below w.heap.size w w' := by
  have PX := hid (val_nonneg ha.1)
  have PY := hid (val_nonneg hb.1)
  have GE := hid hge
  have hcmp := cmpI_neg hge
  go_enter Try.func23, Try.ntmps23
  go_wp2_with fail
  refine (cmp_now ha hb).mono ?_
  rintro e w1 ⟨rfl, k1⟩
  have a1 := ha.now k1
  have b1 := hb.now k1
  have g1 := k1
  clear ha hb k1
  go_wp2_with fail
  refine (square_now b1 (by omega)).mono ?_
  rintro e w2 ⟨AA, aaa, aac, rfl, aa0, CAA, HAA, laa, k2⟩
  have a2 := a1.now k2
  have b2 := b1.now k2
  have g2 := below_step g1 k2
  replace CAA := hid CAA
  replace HAA := hid HAA
  clear a1 b1 g1 k2
  go_wp2_with fail
  refine (square_now a2 (by omega)).mono ?_
  rintro e w3 ⟨BB, bba, bbc, rfl, bb0, CBB, HBB, lbb, k3⟩
  have a3 := a2.now k3
  have b3 := b2.now k3
  have aa3 := aa0.now k3
  have g3 := below_step g2 k3
  replace CBB := hid CBB
  replace HBB := hid HBB
  clear a2 b2 aa0 g2 k3
  go_wp2_with fail
  refine (mul_now b3 a3 (by omega)).mono ?_
  rintro e w4 ⟨AB, aba, abc, rfl, ab0, CAB, HAB, lab, k4⟩
  have a4 := a3.now k4
  have b4 := b3.now k4
  have aa4 := aa3.now k4
  have bb4 := bb0.now k4
  have g4 := below_step g3 k4
  replace CAB := hid CAB
  replace HAB := hid HAB
  clear a3 b3 aa3 bb0 g3 k4
  go_wp2_with fail
  refine (add_now b4 a4 (by omega) (by omega)).mono ?_
  rintro e w5 ⟨SU, suv, rfl, su0, CSU, HSU, lsu, k5⟩
  have a5 := a4.now k5
  have b5 := b4.now k5
  have aa5 := aa4.now k5
  have bb5 := bb4.now k5
  have ab5 := ab0.now k5
  have g5 := below_step g4 k5
  replace CSU := hid CSU
  replace HSU := hid HSU
  clear a4 b4 aa4 bb4 ab0 g4 k5
  go_wp2_with fail
  refine (sub_now b5 a5 (Int.le_of_lt GE.out)).mono ?_
  rintro e w6 ⟨GA, gaa, gac, rfl, ga0, CGA, HGA, lga, k6⟩
  have a6 := a5.now k6
  have b6 := b5.now k6
  have aa6 := aa5.now k6
  have bb6 := bb5.now k6
  have ab6 := ab5.now k6
  have su6 := su0.now k6
  have g6 := below_step g5 k6
  replace CGA := hid CGA
  replace HGA := hid HGA
  clear a5 b5 aa5 bb5 ab5 su0 g5 k6
  go_wp2_with fail
  refine (mul_now b6 b6 (by omega)).mono ?_
  rintro e w7 ⟨AQ, aqa, aqc, rfl, aq0, CAQ, HAQ, laq, k7⟩
  have aa7 := aa6.now k7
  have bb7 := bb6.now k7
  have ab7 := ab6.now k7
  have su7 := su6.now k7
  have ga7 := ga0.now k7
  have g7 := below_step g6 k7
  replace CAQ := hid CAQ
  replace HAQ := hid HAQ
  clear a6 b6 aa6 bb6 ab6 su6 ga0 g6 k7
  go_wp2_with fail
  refine (same_yes aa7 aq0 (canon_inj CAA.out CAQ.out (by rw [HAA.out, HAQ.out]; first | done | grind))).mono ?_
  rintro e w8 ⟨rfl, k8⟩
  have aa8 := aa7.now k8
  have bb8 := bb7.now k8
  have ab8 := ab7.now k8
  have su8 := su7.now k8
  have ga8 := ga7.now k8
  have g8 := below_step g7 k8
  clear aq0 aa7 bb7 ab7 su7 ga7 g7 k8
  go_wp2_with fail
  refine (add_now ab8 ab8 (by omega) (by omega)).mono ?_
  rintro e w9 ⟨TW, twv, rfl, tw0, CTW, HTW, ltw, k9⟩
  have aa9 := aa8.now k9
  have bb9 := bb8.now k9
  have su9 := su8.now k9
  have ga9 := ga8.now k9
  have g9 := below_step g8 k9
  replace CTW := hid CTW
  replace HTW := hid HTW
  clear ab8 aa8 bb8 su8 ga8 g8 k9
  go_wp2_with fail
  refine (add_now aa9 bb9 (by omega) (by omega)).mono ?_
  rintro e w10 ⟨AL, alv, rfl, al0, CAL, HAL, lal, k10⟩
  have aa10 := aa9.now k10
  have bb10 := bb9.now k10
  have su10 := su9.now k10
  have ga10 := ga9.now k10
  have tw10 := tw0.now k10
  have g10 := below_step g9 k10
  replace CAL := hid CAL
  replace HAL := hid HAL
  clear aa9 bb9 su9 ga9 tw0 g9 k10
  go_wp2_with fail
  refine (square_now su10 (by omega)).mono ?_
  rintro e w11 ⟨SQ, sqa, sqc, rfl, sq0, CSQ, HSQ, lsq, k11⟩
  have aa11 := aa10.now k11
  have bb11 := bb10.now k11
  have su11 := su10.now k11
  have ga11 := ga10.now k11
  have tw11 := tw10.now k11
  have al11 := al0.now k11
  have g11 := below_step g10 k11
  replace CSQ := hid CSQ
  replace HSQ := hid HSQ
  clear aa10 bb10 su10 ga10 tw10 al0 g10 k11
  go_wp2_with fail
  refine (add_now al11 tw11 (by omega) (by omega)).mono ?_
  rintro e w12 ⟨RI, riv, rfl, ri0, CRI, HRI, lri, k12⟩
  have aa12 := aa11.now k12
  have bb12 := bb11.now k12
  have su12 := su11.now k12
  have ga12 := ga11.now k12
  have tw12 := tw11.now k12
  have al12 := al11.now k12
  have sq12 := sq0.now k12
  have g12 := below_step g11 k12
  replace CRI := hid CRI
  replace HRI := hid HRI
  clear aa11 bb11 su11 ga11 tw11 al11 sq0 g11 k12
  go_wp2_with fail
  refine (same_yes sq12 ri0 (canon_inj CSQ.out CRI.out (by rw [HSQ.out, HRI.out, HSU.out, HAL.out, HTW.out, HAA.out, HBB.out, HAB.out]; first | done | grind))).mono ?_
  rintro e w13 ⟨rfl, k13⟩
  have aa13 := aa12.now k13
  have bb13 := bb12.now k13
  have su13 := su12.now k13
  have ga13 := ga12.now k13
  have tw13 := tw12.now k13
  have al13 := al12.now k13
  have g13 := below_step g12 k13
  clear sq12 ri0 aa12 bb12 su12 ga12 tw12 al12 g12 k13
  go_wp2_with fail
  refine (sub_now aa13 bb13 (by rw [HAA.out, HBB.out]; exact square_mono (PX.out) (Int.le_of_lt GE.out))).mono ?_
  rintro e w14 ⟨LE, lea, lec, rfl, le0, CLE, HLE, lle, k14⟩
  have su14 := su13.now k14
  have ga14 := ga13.now k14
  have tw14 := tw13.now k14
  have al14 := al13.now k14
  have g14 := below_step g13 k14
  replace CLE := hid CLE
  replace HLE := hid HLE
  clear aa13 bb13 su13 ga13 tw13 al13 g13 k14
  go_wp2_with fail
  refine (mul_now su14 ga14 (by omega)).mono ?_
  rintro e w15 ⟨PR, pra, prc, rfl, pr0, CPR, HPR, lpr, k15⟩
  have ga15 := ga14.now k15
  have tw15 := tw14.now k15
  have al15 := al14.now k15
  have le15 := le0.now k15
  have g15 := below_step g14 k15
  replace CPR := hid CPR
  replace HPR := hid HPR
  clear su14 ga14 tw14 al14 le0 g14 k15
  go_wp2_with fail
  refine (same_yes pr0 le15 (canon_inj CPR.out CLE.out (by rw [HPR.out, HLE.out, HSU.out, HGA.out, HAA.out, HBB.out]; first | done | grind))).mono ?_
  rintro e w16 ⟨rfl, k16⟩
  have ga16 := ga15.now k16
  have tw16 := tw15.now k16
  have al16 := al15.now k16
  have g16 := below_step g15 k16
  clear pr0 le15 ga15 tw15 al15 g15 k16
  go_wp2_with fail
  refine (square_now ga16 (by omega)).mono ?_
  rintro e w17 ⟨GG, gga, ggc, rfl, gg0, CGG, HGG, lgg, k17⟩
  have tw17 := tw16.now k17
  have al17 := al16.now k17
  have g17 := below_step g16 k17
  replace CGG := hid CGG
  replace HGG := hid HGG
  clear ga16 tw16 al16 g16 k17
  go_wp2_with fail
  refine (add_now gg0 tw17 (by omega) (by omega)).mono ?_
  rintro e w18 ⟨FI, fiv, rfl, fi0, CFI, HFI, lfi, k18⟩
  have al18 := al17.now k18
  have g18 := below_step g17 k18
  replace CFI := hid CFI
  replace HFI := hid HFI
  clear gg0 tw17 al17 g17 k18
  go_wp2_with fail
  refine (same_yes fi0 al18 (canon_inj CFI.out CAL.out (by rw [HFI.out, HAL.out, HGG.out, HGA.out, HTW.out, HAA.out, HBB.out, HAB.out]; first | done | grind))).mono ?_
  rintro e w19 ⟨rfl, k19⟩
  have al19 := al18.now k19
  have fi19 := fi0.now k19
  have g19 := below_step g18 k19
  clear al18 fi0 g18 k19
  go_wp2
  go_ret
  exact ⟨rfl, g19⟩

set_option maxHeartbeats 3200000 in
theorem squares_ge {w : World} {va vb : Value} {xs ys : List Int} (ha : Sl w.heap.size w va xs) (hb : Sl w.heap.size w vb ys) (la : xs.length ≤ 4398046511104) (lb : ys.length ≤ 4398046511104) (hge : val ys ≤ val xs) :
    Calls Try.prog 23 #[va, vb] w fun e w' => e = .returned (.bool true) ∧ Below w.heap.size w w' := by
  have PX := hid (val_nonneg ha.1)
  have PY := hid (val_nonneg hb.1)
  have GE := hid hge
  have hcmp := cmpI_nonneg hge
  go_enter Try.func23, Try.ntmps23
  go_wp2_with fail
  refine (cmp_now ha hb).mono ?_
  rintro e w1 ⟨rfl, k1⟩
  have a1 := ha.now k1
  have b1 := hb.now k1
  have g1 := k1
  clear ha hb k1
  go_wp2_with fail
  refine (square_now a1 (by omega)).mono ?_
  rintro e w2 ⟨AA, aaa, aac, rfl, aa0, CAA, HAA, laa, k2⟩
  have a2 := a1.now k2
  have b2 := b1.now k2
  have g2 := below_step g1 k2
  replace CAA := hid CAA
  replace HAA := hid HAA
  clear a1 b1 g1 k2
  go_wp2_with fail
  refine (square_now b2 (by omega)).mono ?_
  rintro e w3 ⟨BB, bba, bbc, rfl, bb0, CBB, HBB, lbb, k3⟩
  have a3 := a2.now k3
  have b3 := b2.now k3
  have aa3 := aa0.now k3
  have g3 := below_step g2 k3
  replace CBB := hid CBB
  replace HBB := hid HBB
  clear a2 b2 aa0 g2 k3
  go_wp2_with fail
  refine (mul_now a3 b3 (by omega)).mono ?_
  rintro e w4 ⟨AB, aba, abc, rfl, ab0, CAB, HAB, lab, k4⟩
  have a4 := a3.now k4
  have b4 := b3.now k4
  have aa4 := aa3.now k4
  have bb4 := bb0.now k4
  have g4 := below_step g3 k4
  replace CAB := hid CAB
  replace HAB := hid HAB
  clear a3 b3 aa3 bb0 g3 k4
  go_wp2_with fail
  refine (add_now a4 b4 (by omega) (by omega)).mono ?_
  rintro e w5 ⟨SU, suv, rfl, su0, CSU, HSU, lsu, k5⟩
  have a5 := a4.now k5
  have b5 := b4.now k5
  have aa5 := aa4.now k5
  have bb5 := bb4.now k5
  have ab5 := ab0.now k5
  have g5 := below_step g4 k5
  replace CSU := hid CSU
  replace HSU := hid HSU
  clear a4 b4 aa4 bb4 ab0 g4 k5
  go_wp2_with fail
  refine (sub_now a5 b5 (GE.out)).mono ?_
  rintro e w6 ⟨GA, gaa, gac, rfl, ga0, CGA, HGA, lga, k6⟩
  have a6 := a5.now k6
  have b6 := b5.now k6
  have aa6 := aa5.now k6
  have bb6 := bb5.now k6
  have ab6 := ab5.now k6
  have su6 := su0.now k6
  have g6 := below_step g5 k6
  replace CGA := hid CGA
  replace HGA := hid HGA
  clear a5 b5 aa5 bb5 ab5 su0 g5 k6
  go_wp2_with fail
  refine (mul_now a6 a6 (by omega)).mono ?_
  rintro e w7 ⟨AQ, aqa, aqc, rfl, aq0, CAQ, HAQ, laq, k7⟩
  have aa7 := aa6.now k7
  have bb7 := bb6.now k7
  have ab7 := ab6.now k7
  have su7 := su6.now k7
  have ga7 := ga0.now k7
  have g7 := below_step g6 k7
  replace CAQ := hid CAQ
  replace HAQ := hid HAQ
  clear a6 b6 aa6 bb6 ab6 su6 ga0 g6 k7
  go_wp2_with fail
  refine (same_yes aa7 aq0 (canon_inj CAA.out CAQ.out (by rw [HAA.out, HAQ.out]; first | done | grind))).mono ?_
  rintro e w8 ⟨rfl, k8⟩
  have aa8 := aa7.now k8
  have bb8 := bb7.now k8
  have ab8 := ab7.now k8
  have su8 := su7.now k8
  have ga8 := ga7.now k8
  have g8 := below_step g7 k8
  clear aq0 aa7 bb7 ab7 su7 ga7 g7 k8
  go_wp2_with fail
  refine (add_now ab8 ab8 (by omega) (by omega)).mono ?_
  rintro e w9 ⟨TW, twv, rfl, tw0, CTW, HTW, ltw, k9⟩
  have aa9 := aa8.now k9
  have bb9 := bb8.now k9
  have su9 := su8.now k9
  have ga9 := ga8.now k9
  have g9 := below_step g8 k9
  replace CTW := hid CTW
  replace HTW := hid HTW
  clear ab8 aa8 bb8 su8 ga8 g8 k9
  go_wp2_with fail
  refine (add_now aa9 bb9 (by omega) (by omega)).mono ?_
  rintro e w10 ⟨AL, alv, rfl, al0, CAL, HAL, lal, k10⟩
  have aa10 := aa9.now k10
  have bb10 := bb9.now k10
  have su10 := su9.now k10
  have ga10 := ga9.now k10
  have tw10 := tw0.now k10
  have g10 := below_step g9 k10
  replace CAL := hid CAL
  replace HAL := hid HAL
  clear aa9 bb9 su9 ga9 tw0 g9 k10
  go_wp2_with fail
  refine (square_now su10 (by omega)).mono ?_
  rintro e w11 ⟨SQ, sqa, sqc, rfl, sq0, CSQ, HSQ, lsq, k11⟩
  have aa11 := aa10.now k11
  have bb11 := bb10.now k11
  have su11 := su10.now k11
  have ga11 := ga10.now k11
  have tw11 := tw10.now k11
  have al11 := al0.now k11
  have g11 := below_step g10 k11
  replace CSQ := hid CSQ
  replace HSQ := hid HSQ
  clear aa10 bb10 su10 ga10 tw10 al0 g10 k11
  go_wp2_with fail
  refine (add_now al11 tw11 (by omega) (by omega)).mono ?_
  rintro e w12 ⟨RI, riv, rfl, ri0, CRI, HRI, lri, k12⟩
  have aa12 := aa11.now k12
  have bb12 := bb11.now k12
  have su12 := su11.now k12
  have ga12 := ga11.now k12
  have tw12 := tw11.now k12
  have al12 := al11.now k12
  have sq12 := sq0.now k12
  have g12 := below_step g11 k12
  replace CRI := hid CRI
  replace HRI := hid HRI
  clear aa11 bb11 su11 ga11 tw11 al11 sq0 g11 k12
  go_wp2_with fail
  refine (same_yes sq12 ri0 (canon_inj CSQ.out CRI.out (by rw [HSQ.out, HRI.out, HSU.out, HAL.out, HTW.out, HAA.out, HBB.out, HAB.out]; first | done | grind))).mono ?_
  rintro e w13 ⟨rfl, k13⟩
  have aa13 := aa12.now k13
  have bb13 := bb12.now k13
  have su13 := su12.now k13
  have ga13 := ga12.now k13
  have tw13 := tw12.now k13
  have al13 := al12.now k13
  have g13 := below_step g12 k13
  clear sq12 ri0 aa12 bb12 su12 ga12 tw12 al12 g12 k13
  go_wp2_with fail
  refine (sub_now aa13 bb13 (by rw [HAA.out, HBB.out]; exact square_mono (PY.out) (GE.out))).mono ?_
  rintro e w14 ⟨LE, lea, lec, rfl, le0, CLE, HLE, lle, k14⟩
  have su14 := su13.now k14
  have ga14 := ga13.now k14
  have tw14 := tw13.now k14
  have al14 := al13.now k14
  have g14 := below_step g13 k14
  replace CLE := hid CLE
  replace HLE := hid HLE
  clear aa13 bb13 su13 ga13 tw13 al13 g13 k14
  go_wp2_with fail
  refine (mul_now su14 ga14 (by omega)).mono ?_
  rintro e w15 ⟨PR, pra, prc, rfl, pr0, CPR, HPR, lpr, k15⟩
  have ga15 := ga14.now k15
  have tw15 := tw14.now k15
  have al15 := al14.now k15
  have le15 := le0.now k15
  have g15 := below_step g14 k15
  replace CPR := hid CPR
  replace HPR := hid HPR
  clear su14 ga14 tw14 al14 le0 g14 k15
  go_wp2_with fail
  refine (same_yes pr0 le15 (canon_inj CPR.out CLE.out (by rw [HPR.out, HLE.out, HSU.out, HGA.out, HAA.out, HBB.out]; first | done | grind))).mono ?_
  rintro e w16 ⟨rfl, k16⟩
  have ga16 := ga15.now k16
  have tw16 := tw15.now k16
  have al16 := al15.now k16
  have g16 := below_step g15 k16
  clear pr0 le15 ga15 tw15 al15 g15 k16
  go_wp2_with fail
  refine (square_now ga16 (by omega)).mono ?_
  rintro e w17 ⟨GG, gga, ggc, rfl, gg0, CGG, HGG, lgg, k17⟩
  have tw17 := tw16.now k17
  have al17 := al16.now k17
  have g17 := below_step g16 k17
  replace CGG := hid CGG
  replace HGG := hid HGG
  clear ga16 tw16 al16 g16 k17
  go_wp2_with fail
  refine (add_now gg0 tw17 (by omega) (by omega)).mono ?_
  rintro e w18 ⟨FI, fiv, rfl, fi0, CFI, HFI, lfi, k18⟩
  have al18 := al17.now k18
  have g18 := below_step g17 k18
  replace CFI := hid CFI
  replace HFI := hid HFI
  clear gg0 tw17 al17 g17 k18
  go_wp2_with fail
  refine (same_yes fi0 al18 (canon_inj CFI.out CAL.out (by rw [HFI.out, HAL.out, HGG.out, HGA.out, HTW.out, HAA.out, HBB.out, HAB.out]; first | done | grind))).mono ?_
  rintro e w19 ⟨rfl, k19⟩
  have al19 := al18.now k19
  have fi19 := fi0.now k19
  have g19 := below_step g18 k19
  clear al18 fi0 g18 k19
  go_wp2
  go_ret
  exact ⟨rfl, g19⟩

theorem squares_any {w : World} {va vb : Value} {xs ys : List Int} (ha : Sl w.heap.size w va xs) (hb : Sl w.heap.size w vb ys) (la : xs.length ≤ 4398046511104) (lb : ys.length ≤ 4398046511104) :
    Calls Try.prog 23 #[va, vb] w fun e w' => e = .returned (.bool true) ∧ Below w.heap.size w w' := by
  by_cases h : val xs < val ys
  · exact squares_lt ha hb la lb h
  · exact squares_ge ha hb la lb (by omega)

set_option maxHeartbeats 6400000 in
theorem mulnatRing_any {w : World} {va vb vc : Value} {xs ys zs : List Int} (ha : Sl w.heap.size w va xs) (hb : Sl w.heap.size w vb ys) (hc : Sl w.heap.size w vc zs) (FA : Hid (Formed va)) (la : xs.length ≤ 1048576) (lb : ys.length ≤ 1048576) (lc : zs.length ≤ 1048576) :
    Calls Try.prog 5 #[va, vb, vc] w fun e w' => e = .returned (.bool true) ∧ Below w.heap.size w w' := by
  have WA := hid ha.1
  have FW := hid (fst_is hc.1)
  go_enter Try.func5, Try.ntmps5
  go_wp2_with fail
  refine (wake_any _).mono ?_
  rintro e w1 ⟨rfl, k1⟩
  have a1 := ha.now k1
  have b1 := hb.now k1
  have c1 := hc.now k1
  have g1 := k1
  clear ha hb hc k1
  go_wp2_with fail
  refine (mul_now a1 b1 (by omega)).mono ?_
  rintro e w2 ⟨AB, aba, abc, rfl, ab0, CAB, HAB, lab, k2⟩
  have a2 := a1.now k2
  have b2 := b1.now k2
  have c2 := c1.now k2
  have g2 := below_step g1 k2
  replace CAB := hid CAB
  replace HAB := hid HAB
  clear a1 b1 c1 g1 k2
  go_wp2_with fail
  refine (mul_now b2 a2 (by omega)).mono ?_
  rintro e w3 ⟨BA, baa, bac, rfl, ba0, CBA, HBA, lba, k3⟩
  have a3 := a2.now k3
  have b3 := b2.now k3
  have c3 := c2.now k3
  have ab3 := ab0.now k3
  have g3 := below_step g2 k3
  replace CBA := hid CBA
  replace HBA := hid HBA
  clear a2 b2 c2 ab0 g2 k3
  go_wp2_with fail
  refine (mul_now b3 c3 (by omega)).mono ?_
  rintro e w4 ⟨BC, bca, bcc, rfl, bc0, CBC, HBC, lbc, k4⟩
  have a4 := a3.now k4
  have b4 := b3.now k4
  have c4 := c3.now k4
  have ab4 := ab3.now k4
  have ba4 := ba0.now k4
  have g4 := below_step g3 k4
  replace CBC := hid CBC
  replace HBC := hid HBC
  clear a3 b3 c3 ab3 ba0 g3 k4
  go_wp2_with fail
  refine (mul_now a4 c4 (by omega)).mono ?_
  rintro e w5 ⟨AC, aca, acc, rfl, ac0, CAC, HAC, lac, k5⟩
  have a5 := a4.now k5
  have b5 := b4.now k5
  have c5 := c4.now k5
  have ab5 := ab4.now k5
  have ba5 := ba4.now k5
  have bc5 := bc0.now k5
  have g5 := below_step g4 k5
  replace CAC := hid CAC
  replace HAC := hid HAC
  clear a4 b4 c4 ab4 ba4 bc0 g4 k5
  go_wp2_with fail
  refine (same_yes ab5 ba5 (canon_inj CAB.out CBA.out (by rw [HAB.out, HBA.out]; first | done | grind))).mono ?_
  rintro e w6 ⟨rfl, k6⟩
  have a6 := a5.now k6
  have b6 := b5.now k6
  have c6 := c5.now k6
  have ab6 := ab5.now k6
  have bc6 := bc5.now k6
  have ac6 := ac0.now k6
  have g6 := below_step g5 k6
  clear ba5 a5 b5 c5 ab5 bc5 ac0 g5 k6
  go_wp2_with fail
  refine (mul_now ab6 c6 (by omega)).mono ?_
  rintro e w7 ⟨PQ, pqa, pqc, rfl, pq0, CPQ, HPQ, lpq, k7⟩
  have a7 := a6.now k7
  have b7 := b6.now k7
  have c7 := c6.now k7
  have ab7 := ab6.now k7
  have bc7 := bc6.now k7
  have ac7 := ac6.now k7
  have g7 := below_step g6 k7
  replace CPQ := hid CPQ
  replace HPQ := hid HPQ
  clear a6 b6 c6 ab6 bc6 ac6 g6 k7
  go_wp2_with fail
  refine (mul_now a7 bc7 (by omega)).mono ?_
  rintro e w8 ⟨PR, pra, prc, rfl, pr0, CPR, HPR, lpr, k8⟩
  have a8 := a7.now k8
  have b8 := b7.now k8
  have c8 := c7.now k8
  have ab8 := ab7.now k8
  have ac8 := ac7.now k8
  have pq8 := pq0.now k8
  have g8 := below_step g7 k8
  replace CPR := hid CPR
  replace HPR := hid HPR
  clear bc7 a7 b7 c7 ab7 ac7 pq0 g7 k8
  go_wp2_with fail
  refine (same_yes pq8 pr0 (canon_inj CPQ.out CPR.out (by rw [HPQ.out, HPR.out, HAB.out, HBC.out]; first | done | grind))).mono ?_
  rintro e w9 ⟨rfl, k9⟩
  have a9 := a8.now k9
  have b9 := b8.now k9
  have c9 := c8.now k9
  have ab9 := ab8.now k9
  have ac9 := ac8.now k9
  have g9 := below_step g8 k9
  clear pq8 pr0 a8 b8 c8 ab8 ac8 g8 k9
  go_wp2_with fail
  refine (add_now b9 c9 (by omega) (by omega)).mono ?_
  rintro e w10 ⟨SU, suv, rfl, su0, CSU, HSU, lsu, k10⟩
  have a10 := a9.now k10
  have b10 := b9.now k10
  have c10 := c9.now k10
  have ab10 := ab9.now k10
  have ac10 := ac9.now k10
  have g10 := below_step g9 k10
  replace CSU := hid CSU
  replace HSU := hid HSU
  clear a9 b9 c9 ab9 ac9 g9 k10
  go_wp2_with fail
  refine (mul_now a10 su0 (by omega)).mono ?_
  rintro e w11 ⟨DL, dla, dlc, rfl, dl0, CDL, HDL, ldl, k11⟩
  have a11 := a10.now k11
  have b11 := b10.now k11
  have c11 := c10.now k11
  have ab11 := ab10.now k11
  have ac11 := ac10.now k11
  have g11 := below_step g10 k11
  replace CDL := hid CDL
  replace HDL := hid HDL
  clear su0 a10 b10 c10 ab10 ac10 g10 k11
  go_wp2_with fail
  refine (add_now ab11 ac11 (by omega) (by omega)).mono ?_
  rintro e w12 ⟨DR, drv, rfl, dr0, CDR, HDR, ldr, k12⟩
  have a12 := a11.now k12
  have b12 := b11.now k12
  have c12 := c11.now k12
  have ab12 := ab11.now k12
  have dl12 := dl0.now k12
  have g12 := below_step g11 k12
  replace CDR := hid CDR
  replace HDR := hid HDR
  clear ac11 a11 b11 c11 ab11 dl0 g11 k12
  go_wp2_with fail
  refine (same_yes dl12 dr0 (canon_inj CDL.out CDR.out (by rw [HDL.out, HDR.out, HSU.out, HAB.out, HAC.out]; first | done | grind))).mono ?_
  rintro e w13 ⟨rfl, k13⟩
  have a13 := a12.now k13
  have b13 := b12.now k13
  have c13 := c12.now k13
  have ab13 := ab12.now k13
  have g13 := below_step g12 k13
  clear dl12 dr0 a12 b12 c12 ab12 g12 k13
  go_wp2_with fail
  refine (mulAdd_now a13 b13 c13 (by omega) (by omega)).mono ?_
  rintro e w14 ⟨MA, maa, mac, rfl, ma0, CMA, HMA, k14⟩
  have a14 := a13.now k14
  have b14 := b13.now k14
  have c14 := c13.now k14
  have ab14 := ab13.now k14
  have g14 := below_step g13 k14
  replace CMA := hid CMA
  replace HMA := hid HMA
  clear a13 b13 c13 ab13 g13 k14
  go_wp2_with fail
  refine (add_now ab14 c14 (by omega) (by omega)).mono ?_
  rintro e w15 ⟨MR, mrv, rfl, mr0, CMR, HMR, lmr, k15⟩
  have a15 := a14.now k15
  have b15 := b14.now k15
  have c15 := c14.now k15
  have ma15 := ma0.now k15
  have g15 := below_step g14 k15
  replace CMR := hid CMR
  replace HMR := hid HMR
  clear ab14 a14 b14 c14 ma0 g14 k15
  go_wp2_with fail
  refine (same_yes ma15 mr0 (canon_inj CMA.out CMR.out (by rw [HMA.out, HMR.out, HAB.out]; first | done | grind))).mono ?_
  rintro e w16 ⟨rfl, k16⟩
  have a16 := a15.now k16
  have b16 := b15.now k16
  have c16 := c15.now k16
  have g16 := below_step g15 k16
  clear ma15 mr0 a15 b15 c15 g15 k16
  go_wp2_with fail
  have kk := (Below.refl w16.heap.size w16).alloc (Nat.le_refl _) (.cells #[.int .u64 1] 35)
  have aq := a16.now kk
  clear a16
  have bq := b16.now kk
  clear b16
  have cq := c16.now kk
  clear c16
  have gq := below_step g16 kk
  clear g16
  have q0 := lit_last w16 [1] #[.int .u64 1] rfl (wf_word (by omega) (WF.nil)) (by simp) 1 rfl
  refine (mul_now aq q0 (by simp; omega)).mono ?_
  rintro e w17 ⟨ON, ona, onc, rfl, on0, CON, HON, lon, k17⟩
  have a17 := aq.now k17
  have b17 := bq.now k17
  have c17 := cq.now k17
  have g17 := below_step gq k17
  replace CON := hid CON
  replace HON := hid HON
  clear q0 kk aq bq cq gq k17
  go_wp2_with fail
  have kk := (Below.refl w17.heap.size w17).alloc (Nat.le_refl _) (.cells #[.int .u64 0, .int .u64 0] 35)
  have aq := a17.now kk
  clear a17
  have bq := b17.now kk
  clear b17
  have cq := c17.now kk
  clear c17
  have onq := on0.now kk
  clear on0
  have gq := below_step g17 kk
  clear g17
  have q0 := lit_last w17 [0, 0] #[.int .u64 0, .int .u64 0] rfl (wf_word (by omega) (wf_word (by omega) (WF.nil))) (by simp) 2 rfl
  refine (mul_now aq q0 (by simp; omega)).mono ?_
  rintro e w18 ⟨NO, noa, noc, rfl, no0, CNO, HNO, lno, k18⟩
  have a18 := aq.now k18
  have b18 := bq.now k18
  have c18 := cq.now k18
  have on18 := onq.now k18
  have g18 := below_step gq k18
  replace CNO := hid CNO
  replace HNO := hid HNO
  clear q0 kk aq bq cq onq gq k18
  obtain rfl : NO = [] := canon_zero CNO.out (by rw [HNO.out]; simp [val])
  clear no0
  go_wp2_with fail
  refine (leastHand_any a18 FA.out (by omega)).mono ?_
  rintro e w19 ⟨vl, rfl, lh0, k19⟩
  have a19 := a18.now k19
  have b19 := b18.now k19
  have c19 := c18.now k19
  have on19 := on18.now k19
  have g19 := below_step g18 k19
  clear a18 b18 c18 on18 g18 k19
  go_wp2_with fail
  refine (same_yes on19 lh0 (canon_inj CON.out (canon_lst WA.out) (by rw [HON.out, val_lst]; simp [val]))).mono ?_
  rintro e w20 ⟨rfl, k20⟩
  have a20 := a19.now k20
  have b20 := b19.now k20
  have c20 := c19.now k20
  have g20 := below_step g19 k20
  clear on19 lh0 a19 b19 c19 g19 k20
  go_wp2_with fail
  refine (first_any c20).mono ?_
  rintro e w21 ⟨rfl, k21⟩
  have a21 := a20.now k21
  have b21 := b20.now k21
  have g21 := below_step g20 k21
  clear c20 a20 b20 g20 k21
  go_wp2_with fail
  refine (word_now a21 FW.out (by omega)).mono ?_
  rintro e w22 ⟨WO, woa, woc, rfl, wo0, CWO, HWO, k22⟩
  have a22 := a21.now k22
  have b22 := b21.now k22
  have g22 := below_step g21 k22
  replace CWO := hid CWO
  replace HWO := hid HWO
  clear a21 b21 g21 k22
  go_wp2_with fail
  have kk := (Below.refl w22.heap.size w22).alloc (Nat.le_refl _) (.cells #[.int .u64 (fstW zs)] 35)
  have aq := a22.now kk
  clear a22
  have bq := b22.now kk
  clear b22
  have woq := wo0.now kk
  clear wo0
  have gq := below_step g22 kk
  clear g22
  have q0 := lit_last w22 [fstW zs] #[.int .u64 (fstW zs)] rfl (WF.cons FW.out WF.nil) (by simp) 1 rfl
  refine (mul_now q0 aq (by simp; omega)).mono ?_
  rintro e w23 ⟨WM, wma, wmc, rfl, wm0, CWM, HWM, lwm, k23⟩
  have a23 := aq.now k23
  have b23 := bq.now k23
  have wo23 := woq.now k23
  have g23 := below_step gq k23
  replace CWM := hid CWM
  replace HWM := hid HWM
  clear q0 kk aq bq woq gq k23
  go_wp2_with fail
  refine (same_yes wo23 wm0 (canon_inj CWO.out CWM.out (by rw [HWO.out, HWM.out, Int.mul_comm]; simp [val]))).mono ?_
  rintro e w24 ⟨rfl, k24⟩
  have a24 := a23.now k24
  have b24 := b23.now k24
  have g24 := below_step g23 k24
  clear wo23 wm0 a23 b23 g23 k24
  go_wp2_with fail
  refine (squares_any a24 b24 (by omega) (by omega)).mono ?_
  rintro e w25 ⟨rfl, k25⟩
  have g25 := below_step g24 k25
  clear a24 b24 g24 k25
  go_wp2
  go_ret
  exact ⟨rfl, g25⟩
end Go.Proofs.Ytagfekcocdjhlaa
