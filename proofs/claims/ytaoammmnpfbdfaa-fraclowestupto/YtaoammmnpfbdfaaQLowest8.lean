/-
  Lowest8: the walk of FracLowest.
-/
import Derived.Test.YtaoammmnpfbdfaaQRc8
import Derived.Test.YtaoammmnpfbdfaaQAwake8
namespace Go.Proofs.Ytaoammmnpfbdfaa
open Go.RowKit
set_option linter.unusedVariables false

theorem sub_as' {N D M E : Int} : N * E + -M * D = N * E - M * D := by rw [Int.neg_mul]; omega
theorem fdiv_na {w : World} {a0 a1 a2 a3 b0 b1 b2 b3 : Value} {AN AD BN BD : Int} {k : Nat} (han : Zi w (.agg #[a0, a1]) AN k) (had : Zi w (.agg #[a2, a3]) AD k) (hbn : Zi w (.agg #[b0, b1]) BN k) (hbd : Zi w (.agg #[b2, b3]) BD k) (hk : k ≤ 17179869184) (hA : AD = 0) : Calls Try.prog 13 #[.agg #[a0, a1, a2, a3], .agg #[b0, b1, b2, b3]] w (GivesFE 4 w) := by
  by_cases hB : BD = 0
  · exact fdiv_zero han had hbn hbd hk hB
  · exact fdiv_bad han had hbn hbd hk hB (by rw [hA, Int.zero_mul])
set_option maxHeartbeats 6400000 in
set_option maxRecDepth 100000 in
theorem lowest_na {w : World} {a0 a1 a2 a3 b0 b1 b2 b3 : Value} {AN AD BN BD : Int} (han : Zi w (.agg #[a0, a1]) AN 1048576) (had : Zi w (.agg #[a2, a3]) AD 1048576) (hbn : Zi w (.agg #[b0, b1]) BN 1048576) (hbd : Zi w (.agg #[b2, b3]) BD 1048576) (hA : AD = 0) :
    Calls Try.prog 3 #[.agg #[a0, a1, a2, a3], .agg #[b0, b1, b2, b3]] w fun e w' => e = .returned (.bool true) ∧ Below w.heap.size w w' := by
  have HDa := hid hA
  clear hA
  have zan0 := han
  obtain ⟨nan, xan, adan, can, ev, -, -, -⟩ := han
  simp only [Value.agg.injEq] at ev
  obtain ⟨rfl, rfl⟩ := pair_eq ev
  have zad0 := had
  obtain ⟨nad, xad, adad, cad, ev, -, -, -⟩ := had
  simp only [Value.agg.injEq] at ev
  obtain ⟨rfl, rfl⟩ := pair_eq ev
  have zbn0 := hbn
  obtain ⟨nbn, xbn, adbn, cbn, ev, -, -, -⟩ := hbn
  simp only [Value.agg.injEq] at ev
  obtain ⟨rfl, rfl⟩ := pair_eq ev
  have zbd0 := hbd
  obtain ⟨nbd, xbd, adbd, cbd, ev, -, -, -⟩ := hbd
  simp only [Value.agg.injEq] at ev
  obtain ⟨rfl, rfl⟩ := pair_eq ev
  obtain ⟨W0, hW⟩ : ∃ W0, (w.alloc (.cells #[(.bool nan), (.slice adan xan.length can), (.bool nad), (.slice adad xad.length cad)] 26)).alloc (.cells #[(.bool nbn), (.slice adbn xbn.length cbn), (.bool nbd), (.slice adbd xbd.length cbd)] 26) = W0 := ⟨_, rfl⟩
  obtain ⟨b0, sz0⟩ := alloc2 w (.cells #[(.bool nan), (.slice adan xan.length can), (.bool nad), (.slice adad xad.length cad)] 26) (.cells #[(.bool nbn), (.slice adbn xbn.length cbn), (.bool nbd), (.slice adbd xbd.length cbd)] 26)
  rw [hW] at b0 sz0
  have Pa : Hid (Cel W0 (w.heap.size) 26 [(.bool nan), (.slice adan xan.length can), (.bool nad), (.slice adad xad.length cad)]) := by unfold Hid; rw [← hW]; exact cel_late (cel_at (by simp)) _
  have Pb : Hid (Cel W0 (w.heap.size + 1) 26 [(.bool nbn), (.slice adbn xbn.length cbn), (.bool nbd), (.slice adbd xbd.length cbd)]) := by unfold Hid; rw [← hW]; exact cel_at (by simp)
  have Zan := hid (zan0.now b0)
  clear zan0
  have Zad := hid (zad0.now b0)
  clear zad0
  have Zbn := hid (zbn0.now b0)
  clear zbn0
  have Zbd := hid (zbd0.now b0)
  clear zbd0
  have G := hid b0
  clear b0
  have EW := hid hW
  clear hW
  go_enter Try.func3, Try.ntmps3
  skip
  go_wp2_with fail
  rw [EW.out]
  clear EW
  refine (awake8 _).mono ?_
  rintro e w1 ⟨rfl, b⟩
  replace Zan := hid (Zan.out.now b)
  replace Zad := hid (Zad.out.now b)
  replace Zbn := hid (Zbn.out.now b)
  replace Zbd := hid (Zbd.out.now b)
  replace Pa := hid (Pa.out.step b)
  replace Pb := hid (Pb.out.step b)
  replace G := hid (below_step G.out b)
  have lz2 := (show Below _ _ _ from b).size
  clear b 
  have ca0 := (Pa.out.at (i := 0) rfl)
  have ca1 := (Pa.out.at (i := 1) rfl)
  have ca2 := (Pa.out.at (i := 2) rfl)
  have ca3 := (Pa.out.at (i := 3) rfl)
  go_wp2_with fail
  clear ca0 ca1 ca2 ca3
  refine (fof_zero Zan.out Zad.out (by decide) HDa.out).mono ?_
  rintro e w3 ⟨rfl, b⟩
  replace Zan := hid (Zan.out.now b)
  replace Zad := hid (Zad.out.now b)
  replace Zbn := hid (Zbn.out.now b)
  replace Zbd := hid (Zbd.out.now b)
  replace Pa := hid (Pa.out.step b)
  replace Pb := hid (Pb.out.step b)
  replace G := hid (below_step G.out b)
  have lz4 := (show Below _ _ _ from b).size
  clear b 
  obtain ⟨V5, hW⟩ : ∃ V5, w3.alloc (.cells #[(.bool false), (.slice none 0 0), (.bool false), (.slice none 0 0)] 26) = V5 := ⟨_, rfl⟩
  obtain ⟨kW, sz5⟩ := alloc1 w3 (.cells #[(.bool false), (.slice none 0 0), (.bool false), (.slice none 0 0)] 26)
  rw [hW] at kW sz5
  replace Zan := hid (Zan.out.now kW)
  replace Zad := hid (Zad.out.now kW)
  replace Zbn := hid (Zbn.out.now kW)
  replace Zbd := hid (Zbd.out.now kW)
  replace Pa := hid (Pa.out.step kW)
  replace Pb := hid (Pb.out.step kW)
  replace G := hid (below_step G.out kW)
  have lz6 := (show Below _ _ _ from kW).size
  have Po : Hid (Cel V5 (w3.heap.size) 26 [(.bool false), (.slice none 0 0), (.bool false), (.slice none 0 0)]) := by unfold Hid; rw [← hW]; exact cel_at (by simp)
  clear kW
  have ca0 := (Pa.out.at (i := 0) rfl)
  have ca1 := (Pa.out.at (i := 1) rfl)
  have ca2 := (Pa.out.at (i := 2) rfl)
  have ca3 := (Pa.out.at (i := 3) rfl)
  have cb0 := (Pb.out.at (i := 0) rfl)
  have cb1 := (Pb.out.at (i := 1) rfl)
  have cb2 := (Pb.out.at (i := 2) rfl)
  have cb3 := (Pb.out.at (i := 3) rfl)
  rw [← hW] at ca0 ca1 ca2 ca3 cb0 cb1 cb2 cb3
  have EW := hid hW
  clear hW
  go_wp2_with fail
  rw [EW.out]
  clear EW
  clear ca0 ca1 ca2 ca3 cb0 cb1 cb2 cb3
  refine (fadd_bad Zan.out Zad.out Zbn.out Zbd.out (by decide) (by rw [HDa.out, Int.zero_mul])).mono ?_
  rintro e w7 ⟨rfl, b⟩
  replace Zan := hid (Zan.out.now b)
  replace Zad := hid (Zad.out.now b)
  replace Zbn := hid (Zbn.out.now b)
  replace Zbd := hid (Zbd.out.now b)
  replace Pa := hid (Pa.out.step b)
  replace Pb := hid (Pb.out.step b)
  replace Po := hid (Po.out.step b)
  replace G := hid (below_step G.out b)
  have lz8 := (show Below _ _ _ from b).size
  clear b 
  obtain ⟨V9, hW⟩ : ∃ V9, w7.alloc (.cells #[(.bool false), (.slice none 0 0), (.bool false), (.slice none 0 0)] 26) = V9 := ⟨_, rfl⟩
  obtain ⟨kW, sz9⟩ := alloc1 w7 (.cells #[(.bool false), (.slice none 0 0), (.bool false), (.slice none 0 0)] 26)
  rw [hW] at kW sz9
  replace Zan := hid (Zan.out.now kW)
  replace Zad := hid (Zad.out.now kW)
  replace Zbn := hid (Zbn.out.now kW)
  replace Zbd := hid (Zbd.out.now kW)
  replace Pa := hid (Pa.out.step kW)
  replace Pb := hid (Pb.out.step kW)
  replace Po := hid (Po.out.step kW)
  replace G := hid (below_step G.out kW)
  have lz10 := (show Below _ _ _ from kW).size
  have Ps : Hid (Cel V9 (w7.heap.size) 26 [(.bool false), (.slice none 0 0), (.bool false), (.slice none 0 0)]) := by unfold Hid; rw [← hW]; exact cel_at (by simp)
  clear kW
  have ca0 := (Pa.out.at (i := 0) rfl)
  have ca1 := (Pa.out.at (i := 1) rfl)
  have ca2 := (Pa.out.at (i := 2) rfl)
  have ca3 := (Pa.out.at (i := 3) rfl)
  have cb0 := (Pb.out.at (i := 0) rfl)
  have cb1 := (Pb.out.at (i := 1) rfl)
  have cb2 := (Pb.out.at (i := 2) rfl)
  have cb3 := (Pb.out.at (i := 3) rfl)
  rw [← hW] at ca0 ca1 ca2 ca3 cb0 cb1 cb2 cb3
  have EW := hid hW
  clear hW
  go_wp2_with fail
  rw [EW.out]
  clear EW
  clear ca0 ca1 ca2 ca3 cb0 cb1 cb2 cb3
  refine (fsub_bad Zan.out Zad.out Zbn.out Zbd.out (by decide) (by rw [HDa.out, Int.zero_mul])).mono ?_
  rintro e w11 ⟨rfl, b⟩
  replace Zan := hid (Zan.out.now b)
  replace Zad := hid (Zad.out.now b)
  replace Zbn := hid (Zbn.out.now b)
  replace Zbd := hid (Zbd.out.now b)
  replace Pa := hid (Pa.out.step b)
  replace Pb := hid (Pb.out.step b)
  replace Po := hid (Po.out.step b)
  replace Ps := hid (Ps.out.step b)
  replace G := hid (below_step G.out b)
  have lz12 := (show Below _ _ _ from b).size
  clear b 
  obtain ⟨V13, hW⟩ : ∃ V13, w11.alloc (.cells #[(.bool false), (.slice none 0 0), (.bool false), (.slice none 0 0)] 26) = V13 := ⟨_, rfl⟩
  obtain ⟨kW, sz13⟩ := alloc1 w11 (.cells #[(.bool false), (.slice none 0 0), (.bool false), (.slice none 0 0)] 26)
  rw [hW] at kW sz13
  replace Zan := hid (Zan.out.now kW)
  replace Zad := hid (Zad.out.now kW)
  replace Zbn := hid (Zbn.out.now kW)
  replace Zbd := hid (Zbd.out.now kW)
  replace Pa := hid (Pa.out.step kW)
  replace Pb := hid (Pb.out.step kW)
  replace Po := hid (Po.out.step kW)
  replace Ps := hid (Ps.out.step kW)
  replace G := hid (below_step G.out kW)
  have lz14 := (show Below _ _ _ from kW).size
  have Pd : Hid (Cel V13 (w11.heap.size) 26 [(.bool false), (.slice none 0 0), (.bool false), (.slice none 0 0)]) := by unfold Hid; rw [← hW]; exact cel_at (by simp)
  clear kW
  have ca0 := (Pa.out.at (i := 0) rfl)
  have ca1 := (Pa.out.at (i := 1) rfl)
  have ca2 := (Pa.out.at (i := 2) rfl)
  have ca3 := (Pa.out.at (i := 3) rfl)
  have cb0 := (Pb.out.at (i := 0) rfl)
  have cb1 := (Pb.out.at (i := 1) rfl)
  have cb2 := (Pb.out.at (i := 2) rfl)
  have cb3 := (Pb.out.at (i := 3) rfl)
  rw [← hW] at ca0 ca1 ca2 ca3 cb0 cb1 cb2 cb3
  have EW := hid hW
  clear hW
  go_wp2_with fail
  rw [EW.out]
  clear EW
  clear ca0 ca1 ca2 ca3 cb0 cb1 cb2 cb3
  refine (fmul_bad Zan.out Zad.out Zbn.out Zbd.out (by decide) (by rw [HDa.out, Int.zero_mul])).mono ?_
  rintro e w15 ⟨rfl, b⟩
  replace Zan := hid (Zan.out.now b)
  replace Zad := hid (Zad.out.now b)
  replace Zbn := hid (Zbn.out.now b)
  replace Zbd := hid (Zbd.out.now b)
  replace Pa := hid (Pa.out.step b)
  replace Pb := hid (Pb.out.step b)
  replace Po := hid (Po.out.step b)
  replace Ps := hid (Ps.out.step b)
  replace Pd := hid (Pd.out.step b)
  replace G := hid (below_step G.out b)
  have lz16 := (show Below _ _ _ from b).size
  clear b 
  obtain ⟨V17, hW⟩ : ∃ V17, w15.alloc (.cells #[(.bool false), (.slice none 0 0), (.bool false), (.slice none 0 0)] 26) = V17 := ⟨_, rfl⟩
  obtain ⟨kW, sz17⟩ := alloc1 w15 (.cells #[(.bool false), (.slice none 0 0), (.bool false), (.slice none 0 0)] 26)
  rw [hW] at kW sz17
  replace Zan := hid (Zan.out.now kW)
  replace Zad := hid (Zad.out.now kW)
  replace Zbn := hid (Zbn.out.now kW)
  replace Zbd := hid (Zbd.out.now kW)
  replace Pa := hid (Pa.out.step kW)
  replace Pb := hid (Pb.out.step kW)
  replace Po := hid (Po.out.step kW)
  replace Ps := hid (Ps.out.step kW)
  replace Pd := hid (Pd.out.step kW)
  replace G := hid (below_step G.out kW)
  have lz18 := (show Below _ _ _ from kW).size
  have Pp : Hid (Cel V17 (w15.heap.size) 26 [(.bool false), (.slice none 0 0), (.bool false), (.slice none 0 0)]) := by unfold Hid; rw [← hW]; exact cel_at (by simp)
  clear kW
  have ca0 := (Pa.out.at (i := 0) rfl)
  have ca1 := (Pa.out.at (i := 1) rfl)
  have ca2 := (Pa.out.at (i := 2) rfl)
  have ca3 := (Pa.out.at (i := 3) rfl)
  have cb0 := (Pb.out.at (i := 0) rfl)
  have cb1 := (Pb.out.at (i := 1) rfl)
  have cb2 := (Pb.out.at (i := 2) rfl)
  have cb3 := (Pb.out.at (i := 3) rfl)
  rw [← hW] at ca0 ca1 ca2 ca3 cb0 cb1 cb2 cb3
  have EW := hid hW
  clear hW
  go_wp2_with fail
  rw [EW.out]
  clear EW
  clear ca0 ca1 ca2 ca3 cb0 cb1 cb2 cb3
  refine (fdiv_na Zan.out Zad.out Zbn.out Zbd.out (by decide) HDa.out).mono ?_
  rintro e w19 ⟨rfl, b⟩
  replace Zan := hid (Zan.out.now b)
  replace Zad := hid (Zad.out.now b)
  replace Zbn := hid (Zbn.out.now b)
  replace Zbd := hid (Zbd.out.now b)
  replace Pa := hid (Pa.out.step b)
  replace Pb := hid (Pb.out.step b)
  replace Po := hid (Po.out.step b)
  replace Ps := hid (Ps.out.step b)
  replace Pd := hid (Pd.out.step b)
  replace Pp := hid (Pp.out.step b)
  replace G := hid (below_step G.out b)
  have lz20 := (show Below _ _ _ from b).size
  clear b 
  obtain ⟨V21, hW⟩ : ∃ V21, w19.alloc (.cells #[(.bool false), (.slice none 0 0), (.bool false), (.slice none 0 0)] 26) = V21 := ⟨_, rfl⟩
  obtain ⟨kW, sz21⟩ := alloc1 w19 (.cells #[(.bool false), (.slice none 0 0), (.bool false), (.slice none 0 0)] 26)
  rw [hW] at kW sz21
  replace Zan := hid (Zan.out.now kW)
  replace Zad := hid (Zad.out.now kW)
  replace Zbn := hid (Zbn.out.now kW)
  replace Zbd := hid (Zbd.out.now kW)
  replace Pa := hid (Pa.out.step kW)
  replace Pb := hid (Pb.out.step kW)
  replace Po := hid (Po.out.step kW)
  replace Ps := hid (Ps.out.step kW)
  replace Pd := hid (Pd.out.step kW)
  replace Pp := hid (Pp.out.step kW)
  replace G := hid (below_step G.out kW)
  have lz22 := (show Below _ _ _ from kW).size
  have Pq : Hid (Cel V21 (w19.heap.size) 26 [(.bool false), (.slice none 0 0), (.bool false), (.slice none 0 0)]) := by unfold Hid; rw [← hW]; exact cel_at (by simp)
  clear kW
  have ca0 := (Pa.out.at (i := 0) rfl)
  have ca1 := (Pa.out.at (i := 1) rfl)
  have ca2 := (Pa.out.at (i := 2) rfl)
  have ca3 := (Pa.out.at (i := 3) rfl)
  rw [← hW] at ca0 ca1 ca2 ca3
  have EW := hid hW
  clear hW
  go_wp2_with fail
  rw [EW.out]
  clear EW
  clear ca0 ca1 ca2 ca3
  refine (is8_no Zan.out Zad.out HDa.out).mono ?_
  rintro e w23 ⟨rfl, b⟩
  replace Zan := hid (Zan.out.now b)
  replace Zad := hid (Zad.out.now b)
  replace Zbn := hid (Zbn.out.now b)
  replace Zbd := hid (Zbd.out.now b)
  replace Pa := hid (Pa.out.step b)
  replace Pb := hid (Pb.out.step b)
  replace Po := hid (Po.out.step b)
  replace Ps := hid (Ps.out.step b)
  replace Pd := hid (Pd.out.step b)
  replace Pp := hid (Pp.out.step b)
  replace Pq := hid (Pq.out.step b)
  replace G := hid (below_step G.out b)
  have lz24 := (show Below _ _ _ from b).size
  clear b 
  have ca0 := (Pa.out.at (i := 0) rfl)
  have ca1 := (Pa.out.at (i := 1) rfl)
  have ca2 := (Pa.out.at (i := 2) rfl)
  have ca3 := (Pa.out.at (i := 3) rfl)
  go_wp2_with fail
  clear ca0 ca1 ca2 ca3
  refine (is8_no Zan.out Zad.out HDa.out).mono ?_
  rintro e w25 ⟨rfl, b⟩
  replace Zan := hid (Zan.out.now b)
  replace Zad := hid (Zad.out.now b)
  replace Zbn := hid (Zbn.out.now b)
  replace Zbd := hid (Zbd.out.now b)
  replace Pa := hid (Pa.out.step b)
  replace Pb := hid (Pb.out.step b)
  replace Po := hid (Po.out.step b)
  replace Ps := hid (Ps.out.step b)
  replace Pd := hid (Pd.out.step b)
  replace Pp := hid (Pp.out.step b)
  replace Pq := hid (Pq.out.step b)
  replace G := hid (below_step G.out b)
  have lz26 := (show Below _ _ _ from b).size
  clear b 
  have ca0 := (Pa.out.at (i := 0) rfl)
  have ca1 := (Pa.out.at (i := 1) rfl)
  have ca2 := (Pa.out.at (i := 2) rfl)
  have ca3 := (Pa.out.at (i := 3) rfl)
  go_wp2_with fail
  clear ca0 ca1 ca2 ca3
  refine (is8_no Zan.out Zad.out HDa.out).mono ?_
  rintro e w27 ⟨rfl, b⟩
  replace Zan := hid (Zan.out.now b)
  replace Zad := hid (Zad.out.now b)
  replace Zbn := hid (Zbn.out.now b)
  replace Zbd := hid (Zbd.out.now b)
  replace Pa := hid (Pa.out.step b)
  replace Pb := hid (Pb.out.step b)
  replace Po := hid (Po.out.step b)
  replace Ps := hid (Ps.out.step b)
  replace Pd := hid (Pd.out.step b)
  replace Pp := hid (Pp.out.step b)
  replace Pq := hid (Pq.out.step b)
  replace G := hid (below_step G.out b)
  have lz28 := (show Below _ _ _ from b).size
  clear b 
  have ca0 := (Pa.out.at (i := 0) rfl)
  have ca1 := (Pa.out.at (i := 1) rfl)
  have ca2 := (Pa.out.at (i := 2) rfl)
  have ca3 := (Pa.out.at (i := 3) rfl)
  go_wp2_with fail
  clear ca0 ca1 ca2 ca3
  refine (is8_no Zan.out Zad.out HDa.out).mono ?_
  rintro e w29 ⟨rfl, b⟩
  replace Zan := hid (Zan.out.now b)
  replace Zad := hid (Zad.out.now b)
  replace Zbn := hid (Zbn.out.now b)
  replace Zbd := hid (Zbd.out.now b)
  replace Pa := hid (Pa.out.step b)
  replace Pb := hid (Pb.out.step b)
  replace Po := hid (Po.out.step b)
  replace Ps := hid (Ps.out.step b)
  replace Pd := hid (Pd.out.step b)
  replace Pp := hid (Pp.out.step b)
  replace Pq := hid (Pq.out.step b)
  replace G := hid (below_step G.out b)
  have lz30 := (show Below _ _ _ from b).size
  clear b 
  go_wp2
  go_ret
  exact ⟨rfl, G.out⟩

set_option maxHeartbeats 6400000 in
set_option maxRecDepth 100000 in
theorem lowest_nb {w : World} {a0 a1 a2 a3 b0 b1 b2 b3 : Value} {AN AD BN BD : Int} (han : Zi w (.agg #[a0, a1]) AN 1048576) (had : Zi w (.agg #[a2, a3]) AD 1048576) (hbn : Zi w (.agg #[b0, b1]) BN 1048576) (hbd : Zi w (.agg #[b2, b3]) BD 1048576) (hA : AD ≠ 0) (hB : BD = 0) :
    Calls Try.prog 3 #[.agg #[a0, a1, a2, a3], .agg #[b0, b1, b2, b3]] w fun e w' => e = .returned (.bool true) ∧ Below w.heap.size w w' := by
  have HDa := hid hA
  clear hA
  have HDb := hid hB
  clear hB
  obtain ⟨qa, eqa⟩ : ∃ q, q = Rat.divInt AN AD := ⟨_, rfl⟩
  have EQa := hid eqa
  clear eqa
  have zan0 := han
  obtain ⟨nan, xan, adan, can, ev, -, -, -⟩ := han
  simp only [Value.agg.injEq] at ev
  obtain ⟨rfl, rfl⟩ := pair_eq ev
  have zad0 := had
  obtain ⟨nad, xad, adad, cad, ev, -, -, -⟩ := had
  simp only [Value.agg.injEq] at ev
  obtain ⟨rfl, rfl⟩ := pair_eq ev
  have zbn0 := hbn
  obtain ⟨nbn, xbn, adbn, cbn, ev, -, -, -⟩ := hbn
  simp only [Value.agg.injEq] at ev
  obtain ⟨rfl, rfl⟩ := pair_eq ev
  have zbd0 := hbd
  obtain ⟨nbd, xbd, adbd, cbd, ev, -, -, -⟩ := hbd
  simp only [Value.agg.injEq] at ev
  obtain ⟨rfl, rfl⟩ := pair_eq ev
  obtain ⟨W0, hW⟩ : ∃ W0, (w.alloc (.cells #[(.bool nan), (.slice adan xan.length can), (.bool nad), (.slice adad xad.length cad)] 26)).alloc (.cells #[(.bool nbn), (.slice adbn xbn.length cbn), (.bool nbd), (.slice adbd xbd.length cbd)] 26) = W0 := ⟨_, rfl⟩
  obtain ⟨b0, sz0⟩ := alloc2 w (.cells #[(.bool nan), (.slice adan xan.length can), (.bool nad), (.slice adad xad.length cad)] 26) (.cells #[(.bool nbn), (.slice adbn xbn.length cbn), (.bool nbd), (.slice adbd xbd.length cbd)] 26)
  rw [hW] at b0 sz0
  have Pa : Hid (Cel W0 (w.heap.size) 26 [(.bool nan), (.slice adan xan.length can), (.bool nad), (.slice adad xad.length cad)]) := by unfold Hid; rw [← hW]; exact cel_late (cel_at (by simp)) _
  have Pb : Hid (Cel W0 (w.heap.size + 1) 26 [(.bool nbn), (.slice adbn xbn.length cbn), (.bool nbd), (.slice adbd xbd.length cbd)]) := by unfold Hid; rw [← hW]; exact cel_at (by simp)
  have Zan := hid (zan0.now b0)
  clear zan0
  have Zad := hid (zad0.now b0)
  clear zad0
  have Zbn := hid (zbn0.now b0)
  clear zbn0
  have Zbd := hid (zbd0.now b0)
  clear zbd0
  have G := hid b0
  clear b0
  have EW := hid hW
  clear hW
  go_enter Try.func3, Try.ntmps3
  skip
  go_wp2_with fail
  rw [EW.out]
  clear EW
  refine (awake8 _).mono ?_
  rintro e w1 ⟨rfl, b⟩
  replace Zan := hid (Zan.out.now b)
  replace Zad := hid (Zad.out.now b)
  replace Zbn := hid (Zbn.out.now b)
  replace Zbd := hid (Zbd.out.now b)
  replace Pa := hid (Pa.out.step b)
  replace Pb := hid (Pb.out.step b)
  replace G := hid (below_step G.out b)
  have lz2 := (show Below _ _ _ from b).size
  clear b 
  have ca0 := (Pa.out.at (i := 0) rfl)
  have ca1 := (Pa.out.at (i := 1) rfl)
  have ca2 := (Pa.out.at (i := 2) rfl)
  have ca3 := (Pa.out.at (i := 3) rfl)
  go_wp2_with fail
  clear ca0 ca1 ca2 ca3
  refine (fofq (k := 1048576) Zan.out Zad.out (by decide) HDa.out EQa.out).mono ?_
  rintro e w3 ⟨r0, r1, r2, r3, rfl, m0, m1, b⟩
  obtain ⟨non, xon, adon, qon, rfl, rfl⟩ := m0.zi.comp
  obtain ⟨nod, xod, adod, qod, rfl, rfl⟩ := m1.zi.comp
  replace Zan := hid (Zan.out.now b)
  replace Zad := hid (Zad.out.now b)
  replace Zbn := hid (Zbn.out.now b)
  replace Zbd := hid (Zbd.out.now b)
  replace Pa := hid (Pa.out.step b)
  replace Pb := hid (Pb.out.step b)
  replace G := hid (below_step G.out b)
  have lz4 := (show Below _ _ _ from b).size
  have Zon := hid m0
  have Zod := hid m1
  clear b m0 m1
  obtain ⟨V5, hW⟩ : ∃ V5, w3.alloc (.cells #[(.bool non), (.slice adon xon.length qon), (.bool nod), (.slice adod xod.length qod)] 26) = V5 := ⟨_, rfl⟩
  obtain ⟨kW, sz5⟩ := alloc1 w3 (.cells #[(.bool non), (.slice adon xon.length qon), (.bool nod), (.slice adod xod.length qod)] 26)
  rw [hW] at kW sz5
  replace Zan := hid (Zan.out.now kW)
  replace Zad := hid (Zad.out.now kW)
  replace Zbn := hid (Zbn.out.now kW)
  replace Zbd := hid (Zbd.out.now kW)
  replace Zon := hid (Zon.out.now kW)
  replace Zod := hid (Zod.out.now kW)
  replace Pa := hid (Pa.out.step kW)
  replace Pb := hid (Pb.out.step kW)
  replace G := hid (below_step G.out kW)
  have lz6 := (show Below _ _ _ from kW).size
  have Po : Hid (Cel V5 (w3.heap.size) 26 [(.bool non), (.slice adon xon.length qon), (.bool nod), (.slice adod xod.length qod)]) := by unfold Hid; rw [← hW]; exact cel_at (by simp)
  clear kW
  have ca0 := (Pa.out.at (i := 0) rfl)
  have ca1 := (Pa.out.at (i := 1) rfl)
  have ca2 := (Pa.out.at (i := 2) rfl)
  have ca3 := (Pa.out.at (i := 3) rfl)
  have cb0 := (Pb.out.at (i := 0) rfl)
  have cb1 := (Pb.out.at (i := 1) rfl)
  have cb2 := (Pb.out.at (i := 2) rfl)
  have cb3 := (Pb.out.at (i := 3) rfl)
  rw [← hW] at ca0 ca1 ca2 ca3 cb0 cb1 cb2 cb3
  have EW := hid hW
  clear hW
  go_wp2_with fail
  rw [EW.out]
  clear EW
  clear ca0 ca1 ca2 ca3 cb0 cb1 cb2 cb3
  refine (fadd_bad Zan.out Zad.out Zbn.out Zbd.out (by decide) (by rw [HDb.out, Int.mul_zero])).mono ?_
  rintro e w7 ⟨rfl, b⟩
  replace Zan := hid (Zan.out.now b)
  replace Zad := hid (Zad.out.now b)
  replace Zbn := hid (Zbn.out.now b)
  replace Zbd := hid (Zbd.out.now b)
  replace Zon := hid (Zon.out.now b)
  replace Zod := hid (Zod.out.now b)
  replace Pa := hid (Pa.out.step b)
  replace Pb := hid (Pb.out.step b)
  replace Po := hid (Po.out.step b)
  replace G := hid (below_step G.out b)
  have lz8 := (show Below _ _ _ from b).size
  clear b 
  obtain ⟨V9, hW⟩ : ∃ V9, w7.alloc (.cells #[(.bool false), (.slice none 0 0), (.bool false), (.slice none 0 0)] 26) = V9 := ⟨_, rfl⟩
  obtain ⟨kW, sz9⟩ := alloc1 w7 (.cells #[(.bool false), (.slice none 0 0), (.bool false), (.slice none 0 0)] 26)
  rw [hW] at kW sz9
  replace Zan := hid (Zan.out.now kW)
  replace Zad := hid (Zad.out.now kW)
  replace Zbn := hid (Zbn.out.now kW)
  replace Zbd := hid (Zbd.out.now kW)
  replace Zon := hid (Zon.out.now kW)
  replace Zod := hid (Zod.out.now kW)
  replace Pa := hid (Pa.out.step kW)
  replace Pb := hid (Pb.out.step kW)
  replace Po := hid (Po.out.step kW)
  replace G := hid (below_step G.out kW)
  have lz10 := (show Below _ _ _ from kW).size
  have Ps : Hid (Cel V9 (w7.heap.size) 26 [(.bool false), (.slice none 0 0), (.bool false), (.slice none 0 0)]) := by unfold Hid; rw [← hW]; exact cel_at (by simp)
  clear kW
  have ca0 := (Pa.out.at (i := 0) rfl)
  have ca1 := (Pa.out.at (i := 1) rfl)
  have ca2 := (Pa.out.at (i := 2) rfl)
  have ca3 := (Pa.out.at (i := 3) rfl)
  have cb0 := (Pb.out.at (i := 0) rfl)
  have cb1 := (Pb.out.at (i := 1) rfl)
  have cb2 := (Pb.out.at (i := 2) rfl)
  have cb3 := (Pb.out.at (i := 3) rfl)
  rw [← hW] at ca0 ca1 ca2 ca3 cb0 cb1 cb2 cb3
  have EW := hid hW
  clear hW
  go_wp2_with fail
  rw [EW.out]
  clear EW
  clear ca0 ca1 ca2 ca3 cb0 cb1 cb2 cb3
  refine (fsub_bad Zan.out Zad.out Zbn.out Zbd.out (by decide) (by rw [HDb.out, Int.mul_zero])).mono ?_
  rintro e w11 ⟨rfl, b⟩
  replace Zan := hid (Zan.out.now b)
  replace Zad := hid (Zad.out.now b)
  replace Zbn := hid (Zbn.out.now b)
  replace Zbd := hid (Zbd.out.now b)
  replace Zon := hid (Zon.out.now b)
  replace Zod := hid (Zod.out.now b)
  replace Pa := hid (Pa.out.step b)
  replace Pb := hid (Pb.out.step b)
  replace Po := hid (Po.out.step b)
  replace Ps := hid (Ps.out.step b)
  replace G := hid (below_step G.out b)
  have lz12 := (show Below _ _ _ from b).size
  clear b 
  obtain ⟨V13, hW⟩ : ∃ V13, w11.alloc (.cells #[(.bool false), (.slice none 0 0), (.bool false), (.slice none 0 0)] 26) = V13 := ⟨_, rfl⟩
  obtain ⟨kW, sz13⟩ := alloc1 w11 (.cells #[(.bool false), (.slice none 0 0), (.bool false), (.slice none 0 0)] 26)
  rw [hW] at kW sz13
  replace Zan := hid (Zan.out.now kW)
  replace Zad := hid (Zad.out.now kW)
  replace Zbn := hid (Zbn.out.now kW)
  replace Zbd := hid (Zbd.out.now kW)
  replace Zon := hid (Zon.out.now kW)
  replace Zod := hid (Zod.out.now kW)
  replace Pa := hid (Pa.out.step kW)
  replace Pb := hid (Pb.out.step kW)
  replace Po := hid (Po.out.step kW)
  replace Ps := hid (Ps.out.step kW)
  replace G := hid (below_step G.out kW)
  have lz14 := (show Below _ _ _ from kW).size
  have Pd : Hid (Cel V13 (w11.heap.size) 26 [(.bool false), (.slice none 0 0), (.bool false), (.slice none 0 0)]) := by unfold Hid; rw [← hW]; exact cel_at (by simp)
  clear kW
  have ca0 := (Pa.out.at (i := 0) rfl)
  have ca1 := (Pa.out.at (i := 1) rfl)
  have ca2 := (Pa.out.at (i := 2) rfl)
  have ca3 := (Pa.out.at (i := 3) rfl)
  have cb0 := (Pb.out.at (i := 0) rfl)
  have cb1 := (Pb.out.at (i := 1) rfl)
  have cb2 := (Pb.out.at (i := 2) rfl)
  have cb3 := (Pb.out.at (i := 3) rfl)
  rw [← hW] at ca0 ca1 ca2 ca3 cb0 cb1 cb2 cb3
  have EW := hid hW
  clear hW
  go_wp2_with fail
  rw [EW.out]
  clear EW
  clear ca0 ca1 ca2 ca3 cb0 cb1 cb2 cb3
  refine (fmul_bad Zan.out Zad.out Zbn.out Zbd.out (by decide) (by rw [HDb.out, Int.mul_zero])).mono ?_
  rintro e w15 ⟨rfl, b⟩
  replace Zan := hid (Zan.out.now b)
  replace Zad := hid (Zad.out.now b)
  replace Zbn := hid (Zbn.out.now b)
  replace Zbd := hid (Zbd.out.now b)
  replace Zon := hid (Zon.out.now b)
  replace Zod := hid (Zod.out.now b)
  replace Pa := hid (Pa.out.step b)
  replace Pb := hid (Pb.out.step b)
  replace Po := hid (Po.out.step b)
  replace Ps := hid (Ps.out.step b)
  replace Pd := hid (Pd.out.step b)
  replace G := hid (below_step G.out b)
  have lz16 := (show Below _ _ _ from b).size
  clear b 
  obtain ⟨V17, hW⟩ : ∃ V17, w15.alloc (.cells #[(.bool false), (.slice none 0 0), (.bool false), (.slice none 0 0)] 26) = V17 := ⟨_, rfl⟩
  obtain ⟨kW, sz17⟩ := alloc1 w15 (.cells #[(.bool false), (.slice none 0 0), (.bool false), (.slice none 0 0)] 26)
  rw [hW] at kW sz17
  replace Zan := hid (Zan.out.now kW)
  replace Zad := hid (Zad.out.now kW)
  replace Zbn := hid (Zbn.out.now kW)
  replace Zbd := hid (Zbd.out.now kW)
  replace Zon := hid (Zon.out.now kW)
  replace Zod := hid (Zod.out.now kW)
  replace Pa := hid (Pa.out.step kW)
  replace Pb := hid (Pb.out.step kW)
  replace Po := hid (Po.out.step kW)
  replace Ps := hid (Ps.out.step kW)
  replace Pd := hid (Pd.out.step kW)
  replace G := hid (below_step G.out kW)
  have lz18 := (show Below _ _ _ from kW).size
  have Pp : Hid (Cel V17 (w15.heap.size) 26 [(.bool false), (.slice none 0 0), (.bool false), (.slice none 0 0)]) := by unfold Hid; rw [← hW]; exact cel_at (by simp)
  clear kW
  have ca0 := (Pa.out.at (i := 0) rfl)
  have ca1 := (Pa.out.at (i := 1) rfl)
  have ca2 := (Pa.out.at (i := 2) rfl)
  have ca3 := (Pa.out.at (i := 3) rfl)
  have cb0 := (Pb.out.at (i := 0) rfl)
  have cb1 := (Pb.out.at (i := 1) rfl)
  have cb2 := (Pb.out.at (i := 2) rfl)
  have cb3 := (Pb.out.at (i := 3) rfl)
  rw [← hW] at ca0 ca1 ca2 ca3 cb0 cb1 cb2 cb3
  have EW := hid hW
  clear hW
  go_wp2_with fail
  rw [EW.out]
  clear EW
  clear ca0 ca1 ca2 ca3 cb0 cb1 cb2 cb3
  refine (fdiv_zero Zan.out Zad.out Zbn.out Zbd.out (by decide) HDb.out).mono ?_
  rintro e w19 ⟨rfl, b⟩
  replace Zan := hid (Zan.out.now b)
  replace Zad := hid (Zad.out.now b)
  replace Zbn := hid (Zbn.out.now b)
  replace Zbd := hid (Zbd.out.now b)
  replace Zon := hid (Zon.out.now b)
  replace Zod := hid (Zod.out.now b)
  replace Pa := hid (Pa.out.step b)
  replace Pb := hid (Pb.out.step b)
  replace Po := hid (Po.out.step b)
  replace Ps := hid (Ps.out.step b)
  replace Pd := hid (Pd.out.step b)
  replace Pp := hid (Pp.out.step b)
  replace G := hid (below_step G.out b)
  have lz20 := (show Below _ _ _ from b).size
  clear b 
  obtain ⟨V21, hW⟩ : ∃ V21, w19.alloc (.cells #[(.bool false), (.slice none 0 0), (.bool false), (.slice none 0 0)] 26) = V21 := ⟨_, rfl⟩
  obtain ⟨kW, sz21⟩ := alloc1 w19 (.cells #[(.bool false), (.slice none 0 0), (.bool false), (.slice none 0 0)] 26)
  rw [hW] at kW sz21
  replace Zan := hid (Zan.out.now kW)
  replace Zad := hid (Zad.out.now kW)
  replace Zbn := hid (Zbn.out.now kW)
  replace Zbd := hid (Zbd.out.now kW)
  replace Zon := hid (Zon.out.now kW)
  replace Zod := hid (Zod.out.now kW)
  replace Pa := hid (Pa.out.step kW)
  replace Pb := hid (Pb.out.step kW)
  replace Po := hid (Po.out.step kW)
  replace Ps := hid (Ps.out.step kW)
  replace Pd := hid (Pd.out.step kW)
  replace Pp := hid (Pp.out.step kW)
  replace G := hid (below_step G.out kW)
  have lz22 := (show Below _ _ _ from kW).size
  have Pq : Hid (Cel V21 (w19.heap.size) 26 [(.bool false), (.slice none 0 0), (.bool false), (.slice none 0 0)]) := by unfold Hid; rw [← hW]; exact cel_at (by simp)
  clear kW
  have ca0 := (Pa.out.at (i := 0) rfl)
  have ca1 := (Pa.out.at (i := 1) rfl)
  have ca2 := (Pa.out.at (i := 2) rfl)
  have ca3 := (Pa.out.at (i := 3) rfl)
  rw [← hW] at ca0 ca1 ca2 ca3
  have EW := hid hW
  clear hW
  go_wp2_with fail
  rw [EW.out]
  clear EW
  clear ca0 ca1 ca2 ca3
  refine (is8_yes Zan.out Zad.out HDa.out).mono ?_
  rintro e w23 ⟨rfl, b⟩
  replace Zan := hid (Zan.out.now b)
  replace Zad := hid (Zad.out.now b)
  replace Zbn := hid (Zbn.out.now b)
  replace Zbd := hid (Zbd.out.now b)
  replace Zon := hid (Zon.out.now b)
  replace Zod := hid (Zod.out.now b)
  replace Pa := hid (Pa.out.step b)
  replace Pb := hid (Pb.out.step b)
  replace Po := hid (Po.out.step b)
  replace Ps := hid (Ps.out.step b)
  replace Pd := hid (Pd.out.step b)
  replace Pp := hid (Pp.out.step b)
  replace Pq := hid (Pq.out.step b)
  replace G := hid (below_step G.out b)
  have lz24 := (show Below _ _ _ from b).size
  clear b 
  have ca0 := (Pa.out.at (i := 0) rfl)
  have ca1 := (Pa.out.at (i := 1) rfl)
  have ca2 := (Pa.out.at (i := 2) rfl)
  have ca3 := (Pa.out.at (i := 3) rfl)
  go_wp2_with fail
  clear ca0 ca1 ca2 ca3
  refine (is8_yes Zan.out Zad.out HDa.out).mono ?_
  rintro e w25 ⟨rfl, b⟩
  replace Zan := hid (Zan.out.now b)
  replace Zad := hid (Zad.out.now b)
  replace Zbn := hid (Zbn.out.now b)
  replace Zbd := hid (Zbd.out.now b)
  replace Zon := hid (Zon.out.now b)
  replace Zod := hid (Zod.out.now b)
  replace Pa := hid (Pa.out.step b)
  replace Pb := hid (Pb.out.step b)
  replace Po := hid (Po.out.step b)
  replace Ps := hid (Ps.out.step b)
  replace Pd := hid (Pd.out.step b)
  replace Pp := hid (Pp.out.step b)
  replace Pq := hid (Pq.out.step b)
  replace G := hid (below_step G.out b)
  have lz26 := (show Below _ _ _ from b).size
  clear b 
  have ca0 := (Pa.out.at (i := 0) rfl)
  have ca1 := (Pa.out.at (i := 1) rfl)
  have ca2 := (Pa.out.at (i := 2) rfl)
  have ca3 := (Pa.out.at (i := 3) rfl)
  go_wp2_with fail
  clear ca0 ca1 ca2 ca3
  refine (is8_yes Zan.out Zad.out HDa.out).mono ?_
  rintro e w27 ⟨rfl, b⟩
  replace Zan := hid (Zan.out.now b)
  replace Zad := hid (Zad.out.now b)
  replace Zbn := hid (Zbn.out.now b)
  replace Zbd := hid (Zbd.out.now b)
  replace Zon := hid (Zon.out.now b)
  replace Zod := hid (Zod.out.now b)
  replace Pa := hid (Pa.out.step b)
  replace Pb := hid (Pb.out.step b)
  replace Po := hid (Po.out.step b)
  replace Ps := hid (Ps.out.step b)
  replace Pd := hid (Pd.out.step b)
  replace Pp := hid (Pp.out.step b)
  replace Pq := hid (Pq.out.step b)
  replace G := hid (below_step G.out b)
  have lz28 := (show Below _ _ _ from b).size
  clear b 
  have co0 := (Po.out.at (i := 0) rfl)
  have co1 := (Po.out.at (i := 1) rfl)
  have co2 := (Po.out.at (i := 2) rfl)
  have co3 := (Po.out.at (i := 3) rfl)
  have ca0 := (Pa.out.at (i := 0) rfl)
  have ca1 := (Pa.out.at (i := 1) rfl)
  have ca2 := (Pa.out.at (i := 2) rfl)
  have ca3 := (Pa.out.at (i := 3) rfl)
  go_wp2_with fail
  clear co0 co1 co2 co3 ca0 ca1 ca2 ca3
  refine (names8 Zon.out.zc Zod.out.zc Zan.out Zad.out (by decide) (cross_q HDa.out EQa.out)).mono ?_
  rintro e w29 ⟨rfl, b⟩
  replace Zan := hid (Zan.out.now b)
  replace Zad := hid (Zad.out.now b)
  replace Zbn := hid (Zbn.out.now b)
  replace Zbd := hid (Zbd.out.now b)
  replace Zon := hid (Zon.out.now b)
  replace Zod := hid (Zod.out.now b)
  replace Pa := hid (Pa.out.step b)
  replace Pb := hid (Pb.out.step b)
  replace Po := hid (Po.out.step b)
  replace Ps := hid (Ps.out.step b)
  replace Pd := hid (Pd.out.step b)
  replace Pp := hid (Pp.out.step b)
  replace Pq := hid (Pq.out.step b)
  replace G := hid (below_step G.out b)
  have lz30 := (show Below _ _ _ from b).size
  clear b 
  have ca0 := (Pa.out.at (i := 0) rfl)
  have ca1 := (Pa.out.at (i := 1) rfl)
  have ca2 := (Pa.out.at (i := 2) rfl)
  have ca3 := (Pa.out.at (i := 3) rfl)
  go_wp2_with fail
  clear ca0 ca1 ca2 ca3
  refine (is8_yes Zan.out Zad.out HDa.out).mono ?_
  rintro e w31 ⟨rfl, b⟩
  replace Zan := hid (Zan.out.now b)
  replace Zad := hid (Zad.out.now b)
  replace Zbn := hid (Zbn.out.now b)
  replace Zbd := hid (Zbd.out.now b)
  replace Zon := hid (Zon.out.now b)
  replace Zod := hid (Zod.out.now b)
  replace Pa := hid (Pa.out.step b)
  replace Pb := hid (Pb.out.step b)
  replace Po := hid (Po.out.step b)
  replace Ps := hid (Ps.out.step b)
  replace Pd := hid (Pd.out.step b)
  replace Pp := hid (Pp.out.step b)
  replace Pq := hid (Pq.out.step b)
  replace G := hid (below_step G.out b)
  have lz32 := (show Below _ _ _ from b).size
  clear b 
  have cb0 := (Pb.out.at (i := 0) rfl)
  have cb1 := (Pb.out.at (i := 1) rfl)
  have cb2 := (Pb.out.at (i := 2) rfl)
  have cb3 := (Pb.out.at (i := 3) rfl)
  go_wp2_with fail
  clear cb0 cb1 cb2 cb3
  refine (is8_no Zbn.out Zbd.out HDb.out).mono ?_
  rintro e w33 ⟨rfl, b⟩
  replace Zan := hid (Zan.out.now b)
  replace Zad := hid (Zad.out.now b)
  replace Zbn := hid (Zbn.out.now b)
  replace Zbd := hid (Zbd.out.now b)
  replace Zon := hid (Zon.out.now b)
  replace Zod := hid (Zod.out.now b)
  replace Pa := hid (Pa.out.step b)
  replace Pb := hid (Pb.out.step b)
  replace Po := hid (Po.out.step b)
  replace Ps := hid (Ps.out.step b)
  replace Pd := hid (Pd.out.step b)
  replace Pp := hid (Pp.out.step b)
  replace Pq := hid (Pq.out.step b)
  replace G := hid (below_step G.out b)
  have lz34 := (show Below _ _ _ from b).size
  clear b 
  go_wp2
  go_ret
  exact ⟨rfl, G.out⟩

set_option maxHeartbeats 6400000 in
set_option maxRecDepth 100000 in
theorem lowest_zero {w : World} {a0 a1 a2 a3 b0 b1 b2 b3 : Value} {AN AD BN BD : Int} (han : Zi w (.agg #[a0, a1]) AN 1048576) (had : Zi w (.agg #[a2, a3]) AD 1048576) (hbn : Zi w (.agg #[b0, b1]) BN 1048576) (hbd : Zi w (.agg #[b2, b3]) BD 1048576) (hA : AD ≠ 0) (hB : BD ≠ 0) (hN : BN = 0) :
    Calls Try.prog 3 #[.agg #[a0, a1, a2, a3], .agg #[b0, b1, b2, b3]] w fun e w' => e = .returned (.bool true) ∧ Below w.heap.size w w' := by
  have HDa := hid hA
  clear hA
  have HDb := hid hB
  clear hB
  have HN := hid hN
  clear hN
  obtain ⟨qa, eqa⟩ : ∃ q, q = Rat.divInt AN AD := ⟨_, rfl⟩
  have EQa := hid eqa
  clear eqa
  obtain ⟨qb, eqb⟩ : ∃ q, q = Rat.divInt BN BD := ⟨_, rfl⟩
  have EQb := hid eqb
  clear eqb
  have HS : Hid (∀ w' v, Zi w' v BN 1048576 → Calls Try.prog 19 #[v] w' fun e w'' => e = .returned (.int .i64 0) ∧ Below w'.heap.size w' w'') := fun w' v h' => by
    have q := sign_z h'
    rw [HN.out, cmpI_self] at q
    exact q
  have q0 : ((0 : Int) == 0) = true := rfl
  have zan0 := han
  obtain ⟨nan, xan, adan, can, ev, -, -, -⟩ := han
  simp only [Value.agg.injEq] at ev
  obtain ⟨rfl, rfl⟩ := pair_eq ev
  have zad0 := had
  obtain ⟨nad, xad, adad, cad, ev, -, -, -⟩ := had
  simp only [Value.agg.injEq] at ev
  obtain ⟨rfl, rfl⟩ := pair_eq ev
  have zbn0 := hbn
  obtain ⟨nbn, xbn, adbn, cbn, ev, -, -, -⟩ := hbn
  simp only [Value.agg.injEq] at ev
  obtain ⟨rfl, rfl⟩ := pair_eq ev
  have zbd0 := hbd
  obtain ⟨nbd, xbd, adbd, cbd, ev, -, -, -⟩ := hbd
  simp only [Value.agg.injEq] at ev
  obtain ⟨rfl, rfl⟩ := pair_eq ev
  obtain ⟨W0, hW⟩ : ∃ W0, (w.alloc (.cells #[(.bool nan), (.slice adan xan.length can), (.bool nad), (.slice adad xad.length cad)] 26)).alloc (.cells #[(.bool nbn), (.slice adbn xbn.length cbn), (.bool nbd), (.slice adbd xbd.length cbd)] 26) = W0 := ⟨_, rfl⟩
  obtain ⟨b0, sz0⟩ := alloc2 w (.cells #[(.bool nan), (.slice adan xan.length can), (.bool nad), (.slice adad xad.length cad)] 26) (.cells #[(.bool nbn), (.slice adbn xbn.length cbn), (.bool nbd), (.slice adbd xbd.length cbd)] 26)
  rw [hW] at b0 sz0
  have Pa : Hid (Cel W0 (w.heap.size) 26 [(.bool nan), (.slice adan xan.length can), (.bool nad), (.slice adad xad.length cad)]) := by unfold Hid; rw [← hW]; exact cel_late (cel_at (by simp)) _
  have Pb : Hid (Cel W0 (w.heap.size + 1) 26 [(.bool nbn), (.slice adbn xbn.length cbn), (.bool nbd), (.slice adbd xbd.length cbd)]) := by unfold Hid; rw [← hW]; exact cel_at (by simp)
  have Zan := hid (zan0.now b0)
  clear zan0
  have Zad := hid (zad0.now b0)
  clear zad0
  have Zbn := hid (zbn0.now b0)
  clear zbn0
  have Zbd := hid (zbd0.now b0)
  clear zbd0
  have G := hid b0
  clear b0
  have EW := hid hW
  clear hW
  go_enter Try.func3, Try.ntmps3
  skip
  go_wp2_with fail
  rw [EW.out]
  clear EW
  refine (awake8 _).mono ?_
  rintro e w1 ⟨rfl, b⟩
  replace Zan := hid (Zan.out.now b)
  replace Zad := hid (Zad.out.now b)
  replace Zbn := hid (Zbn.out.now b)
  replace Zbd := hid (Zbd.out.now b)
  replace Pa := hid (Pa.out.step b)
  replace Pb := hid (Pb.out.step b)
  replace G := hid (below_step G.out b)
  have lz2 := (show Below _ _ _ from b).size
  clear b 
  have ca0 := (Pa.out.at (i := 0) rfl)
  have ca1 := (Pa.out.at (i := 1) rfl)
  have ca2 := (Pa.out.at (i := 2) rfl)
  have ca3 := (Pa.out.at (i := 3) rfl)
  go_wp2_with fail
  clear ca0 ca1 ca2 ca3
  refine (fofq (k := 1048576) Zan.out Zad.out (by decide) HDa.out EQa.out).mono ?_
  rintro e w3 ⟨r0, r1, r2, r3, rfl, m0, m1, b⟩
  obtain ⟨non, xon, adon, qon, rfl, rfl⟩ := m0.zi.comp
  obtain ⟨nod, xod, adod, qod, rfl, rfl⟩ := m1.zi.comp
  replace Zan := hid (Zan.out.now b)
  replace Zad := hid (Zad.out.now b)
  replace Zbn := hid (Zbn.out.now b)
  replace Zbd := hid (Zbd.out.now b)
  replace Pa := hid (Pa.out.step b)
  replace Pb := hid (Pb.out.step b)
  replace G := hid (below_step G.out b)
  have lz4 := (show Below _ _ _ from b).size
  have Zon := hid m0
  have Zod := hid m1
  clear b m0 m1
  obtain ⟨V5, hW⟩ : ∃ V5, w3.alloc (.cells #[(.bool non), (.slice adon xon.length qon), (.bool nod), (.slice adod xod.length qod)] 26) = V5 := ⟨_, rfl⟩
  obtain ⟨kW, sz5⟩ := alloc1 w3 (.cells #[(.bool non), (.slice adon xon.length qon), (.bool nod), (.slice adod xod.length qod)] 26)
  rw [hW] at kW sz5
  replace Zan := hid (Zan.out.now kW)
  replace Zad := hid (Zad.out.now kW)
  replace Zbn := hid (Zbn.out.now kW)
  replace Zbd := hid (Zbd.out.now kW)
  replace Zon := hid (Zon.out.now kW)
  replace Zod := hid (Zod.out.now kW)
  replace Pa := hid (Pa.out.step kW)
  replace Pb := hid (Pb.out.step kW)
  replace G := hid (below_step G.out kW)
  have lz6 := (show Below _ _ _ from kW).size
  have Po : Hid (Cel V5 (w3.heap.size) 26 [(.bool non), (.slice adon xon.length qon), (.bool nod), (.slice adod xod.length qod)]) := by unfold Hid; rw [← hW]; exact cel_at (by simp)
  clear kW
  obtain ⟨qs, eqs⟩ : ∃ q, q = qa + qb := ⟨_, rfl⟩
  have EQs := hid eqs
  clear eqs
  have ca0 := (Pa.out.at (i := 0) rfl)
  have ca1 := (Pa.out.at (i := 1) rfl)
  have ca2 := (Pa.out.at (i := 2) rfl)
  have ca3 := (Pa.out.at (i := 3) rfl)
  have cb0 := (Pb.out.at (i := 0) rfl)
  have cb1 := (Pb.out.at (i := 1) rfl)
  have cb2 := (Pb.out.at (i := 2) rfl)
  have cb3 := (Pb.out.at (i := 3) rfl)
  rw [← hW] at ca0 ca1 ca2 ca3 cb0 cb1 cb2 cb3
  have EW := hid hW
  clear hW
  go_wp2_with fail
  rw [EW.out]
  clear EW
  clear ca0 ca1 ca2 ca3 cb0 cb1 cb2 cb3
  refine (faddq (k := 1048576) (l := 2097153) (Zan.out) (Zad.out) (Zbn.out) (Zbd.out) HDa.out HDb.out EQa.out EQb.out EQs.out (by decide) (by decide)).mono ?_
  rintro e w7 ⟨r0, r1, r2, r3, rfl, m0, m1, b⟩
  obtain ⟨nsn, xsn, adsn, qsn, rfl, rfl⟩ := m0.zi.comp
  obtain ⟨nsd, xsd, adsd, qsd, rfl, rfl⟩ := m1.zi.comp
  replace Zan := hid (Zan.out.now b)
  replace Zad := hid (Zad.out.now b)
  replace Zbn := hid (Zbn.out.now b)
  replace Zbd := hid (Zbd.out.now b)
  replace Zon := hid (Zon.out.now b)
  replace Zod := hid (Zod.out.now b)
  replace Pa := hid (Pa.out.step b)
  replace Pb := hid (Pb.out.step b)
  replace Po := hid (Po.out.step b)
  replace G := hid (below_step G.out b)
  have lz8 := (show Below _ _ _ from b).size
  have Zsn := hid m0
  have Zsd := hid m1
  clear b m0 m1
  obtain ⟨V9, hW⟩ : ∃ V9, w7.alloc (.cells #[(.bool nsn), (.slice adsn xsn.length qsn), (.bool nsd), (.slice adsd xsd.length qsd)] 26) = V9 := ⟨_, rfl⟩
  obtain ⟨kW, sz9⟩ := alloc1 w7 (.cells #[(.bool nsn), (.slice adsn xsn.length qsn), (.bool nsd), (.slice adsd xsd.length qsd)] 26)
  rw [hW] at kW sz9
  replace Zan := hid (Zan.out.now kW)
  replace Zad := hid (Zad.out.now kW)
  replace Zbn := hid (Zbn.out.now kW)
  replace Zbd := hid (Zbd.out.now kW)
  replace Zon := hid (Zon.out.now kW)
  replace Zod := hid (Zod.out.now kW)
  replace Zsn := hid (Zsn.out.now kW)
  replace Zsd := hid (Zsd.out.now kW)
  replace Pa := hid (Pa.out.step kW)
  replace Pb := hid (Pb.out.step kW)
  replace Po := hid (Po.out.step kW)
  replace G := hid (below_step G.out kW)
  have lz10 := (show Below _ _ _ from kW).size
  have Ps : Hid (Cel V9 (w7.heap.size) 26 [(.bool nsn), (.slice adsn xsn.length qsn), (.bool nsd), (.slice adsd xsd.length qsd)]) := by unfold Hid; rw [← hW]; exact cel_at (by simp)
  clear kW
  obtain ⟨qd, eqd⟩ : ∃ q, q = qa - qb := ⟨_, rfl⟩
  have EQd := hid eqd
  clear eqd
  have ca0 := (Pa.out.at (i := 0) rfl)
  have ca1 := (Pa.out.at (i := 1) rfl)
  have ca2 := (Pa.out.at (i := 2) rfl)
  have ca3 := (Pa.out.at (i := 3) rfl)
  have cb0 := (Pb.out.at (i := 0) rfl)
  have cb1 := (Pb.out.at (i := 1) rfl)
  have cb2 := (Pb.out.at (i := 2) rfl)
  have cb3 := (Pb.out.at (i := 3) rfl)
  rw [← hW] at ca0 ca1 ca2 ca3 cb0 cb1 cb2 cb3
  have EW := hid hW
  clear hW
  go_wp2_with fail
  rw [EW.out]
  clear EW
  clear ca0 ca1 ca2 ca3 cb0 cb1 cb2 cb3
  refine (fsubq (k := 1048576) (l := 2097153) (Zan.out) (Zad.out) (Zbn.out) (Zbd.out) HDa.out HDb.out EQa.out EQb.out EQd.out (by decide) (by decide)).mono ?_
  rintro e w11 ⟨r0, r1, r2, r3, rfl, m0, m1, b⟩
  obtain ⟨ndn, xdn, addn, qdn, rfl, rfl⟩ := m0.zi.comp
  obtain ⟨ndd, xdd, addd, qdd, rfl, rfl⟩ := m1.zi.comp
  replace Zan := hid (Zan.out.now b)
  replace Zad := hid (Zad.out.now b)
  replace Zbn := hid (Zbn.out.now b)
  replace Zbd := hid (Zbd.out.now b)
  replace Zon := hid (Zon.out.now b)
  replace Zod := hid (Zod.out.now b)
  replace Zsn := hid (Zsn.out.now b)
  replace Zsd := hid (Zsd.out.now b)
  replace Pa := hid (Pa.out.step b)
  replace Pb := hid (Pb.out.step b)
  replace Po := hid (Po.out.step b)
  replace Ps := hid (Ps.out.step b)
  replace G := hid (below_step G.out b)
  have lz12 := (show Below _ _ _ from b).size
  have Zdn := hid m0
  have Zdd := hid m1
  clear b m0 m1
  obtain ⟨V13, hW⟩ : ∃ V13, w11.alloc (.cells #[(.bool ndn), (.slice addn xdn.length qdn), (.bool ndd), (.slice addd xdd.length qdd)] 26) = V13 := ⟨_, rfl⟩
  obtain ⟨kW, sz13⟩ := alloc1 w11 (.cells #[(.bool ndn), (.slice addn xdn.length qdn), (.bool ndd), (.slice addd xdd.length qdd)] 26)
  rw [hW] at kW sz13
  replace Zan := hid (Zan.out.now kW)
  replace Zad := hid (Zad.out.now kW)
  replace Zbn := hid (Zbn.out.now kW)
  replace Zbd := hid (Zbd.out.now kW)
  replace Zon := hid (Zon.out.now kW)
  replace Zod := hid (Zod.out.now kW)
  replace Zsn := hid (Zsn.out.now kW)
  replace Zsd := hid (Zsd.out.now kW)
  replace Zdn := hid (Zdn.out.now kW)
  replace Zdd := hid (Zdd.out.now kW)
  replace Pa := hid (Pa.out.step kW)
  replace Pb := hid (Pb.out.step kW)
  replace Po := hid (Po.out.step kW)
  replace Ps := hid (Ps.out.step kW)
  replace G := hid (below_step G.out kW)
  have lz14 := (show Below _ _ _ from kW).size
  have Pd : Hid (Cel V13 (w11.heap.size) 26 [(.bool ndn), (.slice addn xdn.length qdn), (.bool ndd), (.slice addd xdd.length qdd)]) := by unfold Hid; rw [← hW]; exact cel_at (by simp)
  clear kW
  obtain ⟨qp, eqp⟩ : ∃ q, q = qa * qb := ⟨_, rfl⟩
  have EQp := hid eqp
  clear eqp
  have ca0 := (Pa.out.at (i := 0) rfl)
  have ca1 := (Pa.out.at (i := 1) rfl)
  have ca2 := (Pa.out.at (i := 2) rfl)
  have ca3 := (Pa.out.at (i := 3) rfl)
  have cb0 := (Pb.out.at (i := 0) rfl)
  have cb1 := (Pb.out.at (i := 1) rfl)
  have cb2 := (Pb.out.at (i := 2) rfl)
  have cb3 := (Pb.out.at (i := 3) rfl)
  rw [← hW] at ca0 ca1 ca2 ca3 cb0 cb1 cb2 cb3
  have EW := hid hW
  clear hW
  go_wp2_with fail
  rw [EW.out]
  clear EW
  clear ca0 ca1 ca2 ca3 cb0 cb1 cb2 cb3
  refine (fmulq (k := 1048576) (l := 2097153) (Zan.out) (Zad.out) (Zbn.out) (Zbd.out) HDa.out HDb.out EQa.out EQb.out EQp.out (by decide) (by decide)).mono ?_
  rintro e w15 ⟨r0, r1, r2, r3, rfl, m0, m1, b⟩
  obtain ⟨npn, xpn, adpn, qpn, rfl, rfl⟩ := m0.zi.comp
  obtain ⟨npd, xpd, adpd, qpd, rfl, rfl⟩ := m1.zi.comp
  replace Zan := hid (Zan.out.now b)
  replace Zad := hid (Zad.out.now b)
  replace Zbn := hid (Zbn.out.now b)
  replace Zbd := hid (Zbd.out.now b)
  replace Zon := hid (Zon.out.now b)
  replace Zod := hid (Zod.out.now b)
  replace Zsn := hid (Zsn.out.now b)
  replace Zsd := hid (Zsd.out.now b)
  replace Zdn := hid (Zdn.out.now b)
  replace Zdd := hid (Zdd.out.now b)
  replace Pa := hid (Pa.out.step b)
  replace Pb := hid (Pb.out.step b)
  replace Po := hid (Po.out.step b)
  replace Ps := hid (Ps.out.step b)
  replace Pd := hid (Pd.out.step b)
  replace G := hid (below_step G.out b)
  have lz16 := (show Below _ _ _ from b).size
  have Zpn := hid m0
  have Zpd := hid m1
  clear b m0 m1
  obtain ⟨V17, hW⟩ : ∃ V17, w15.alloc (.cells #[(.bool npn), (.slice adpn xpn.length qpn), (.bool npd), (.slice adpd xpd.length qpd)] 26) = V17 := ⟨_, rfl⟩
  obtain ⟨kW, sz17⟩ := alloc1 w15 (.cells #[(.bool npn), (.slice adpn xpn.length qpn), (.bool npd), (.slice adpd xpd.length qpd)] 26)
  rw [hW] at kW sz17
  replace Zan := hid (Zan.out.now kW)
  replace Zad := hid (Zad.out.now kW)
  replace Zbn := hid (Zbn.out.now kW)
  replace Zbd := hid (Zbd.out.now kW)
  replace Zon := hid (Zon.out.now kW)
  replace Zod := hid (Zod.out.now kW)
  replace Zsn := hid (Zsn.out.now kW)
  replace Zsd := hid (Zsd.out.now kW)
  replace Zdn := hid (Zdn.out.now kW)
  replace Zdd := hid (Zdd.out.now kW)
  replace Zpn := hid (Zpn.out.now kW)
  replace Zpd := hid (Zpd.out.now kW)
  replace Pa := hid (Pa.out.step kW)
  replace Pb := hid (Pb.out.step kW)
  replace Po := hid (Po.out.step kW)
  replace Ps := hid (Ps.out.step kW)
  replace Pd := hid (Pd.out.step kW)
  replace G := hid (below_step G.out kW)
  have lz18 := (show Below _ _ _ from kW).size
  have Pp : Hid (Cel V17 (w15.heap.size) 26 [(.bool npn), (.slice adpn xpn.length qpn), (.bool npd), (.slice adpd xpd.length qpd)]) := by unfold Hid; rw [← hW]; exact cel_at (by simp)
  clear kW
  have ca0 := (Pa.out.at (i := 0) rfl)
  have ca1 := (Pa.out.at (i := 1) rfl)
  have ca2 := (Pa.out.at (i := 2) rfl)
  have ca3 := (Pa.out.at (i := 3) rfl)
  have cb0 := (Pb.out.at (i := 0) rfl)
  have cb1 := (Pb.out.at (i := 1) rfl)
  have cb2 := (Pb.out.at (i := 2) rfl)
  have cb3 := (Pb.out.at (i := 3) rfl)
  rw [← hW] at ca0 ca1 ca2 ca3 cb0 cb1 cb2 cb3
  have EW := hid hW
  clear hW
  go_wp2_with fail
  rw [EW.out]
  clear EW
  clear ca0 ca1 ca2 ca3 cb0 cb1 cb2 cb3
  refine (fdiv_bad Zan.out Zad.out Zbn.out Zbd.out (by decide) HDb.out (by rw [HN.out, Int.mul_zero])).mono ?_
  rintro e w19 ⟨rfl, b⟩
  replace Zan := hid (Zan.out.now b)
  replace Zad := hid (Zad.out.now b)
  replace Zbn := hid (Zbn.out.now b)
  replace Zbd := hid (Zbd.out.now b)
  replace Zon := hid (Zon.out.now b)
  replace Zod := hid (Zod.out.now b)
  replace Zsn := hid (Zsn.out.now b)
  replace Zsd := hid (Zsd.out.now b)
  replace Zdn := hid (Zdn.out.now b)
  replace Zdd := hid (Zdd.out.now b)
  replace Zpn := hid (Zpn.out.now b)
  replace Zpd := hid (Zpd.out.now b)
  replace Pa := hid (Pa.out.step b)
  replace Pb := hid (Pb.out.step b)
  replace Po := hid (Po.out.step b)
  replace Ps := hid (Ps.out.step b)
  replace Pd := hid (Pd.out.step b)
  replace Pp := hid (Pp.out.step b)
  replace G := hid (below_step G.out b)
  have lz20 := (show Below _ _ _ from b).size
  clear b 
  obtain ⟨V21, hW⟩ : ∃ V21, w19.alloc (.cells #[(.bool false), (.slice none 0 0), (.bool false), (.slice none 0 0)] 26) = V21 := ⟨_, rfl⟩
  obtain ⟨kW, sz21⟩ := alloc1 w19 (.cells #[(.bool false), (.slice none 0 0), (.bool false), (.slice none 0 0)] 26)
  rw [hW] at kW sz21
  replace Zan := hid (Zan.out.now kW)
  replace Zad := hid (Zad.out.now kW)
  replace Zbn := hid (Zbn.out.now kW)
  replace Zbd := hid (Zbd.out.now kW)
  replace Zon := hid (Zon.out.now kW)
  replace Zod := hid (Zod.out.now kW)
  replace Zsn := hid (Zsn.out.now kW)
  replace Zsd := hid (Zsd.out.now kW)
  replace Zdn := hid (Zdn.out.now kW)
  replace Zdd := hid (Zdd.out.now kW)
  replace Zpn := hid (Zpn.out.now kW)
  replace Zpd := hid (Zpd.out.now kW)
  replace Pa := hid (Pa.out.step kW)
  replace Pb := hid (Pb.out.step kW)
  replace Po := hid (Po.out.step kW)
  replace Ps := hid (Ps.out.step kW)
  replace Pd := hid (Pd.out.step kW)
  replace Pp := hid (Pp.out.step kW)
  replace G := hid (below_step G.out kW)
  have lz22 := (show Below _ _ _ from kW).size
  have Pq : Hid (Cel V21 (w19.heap.size) 26 [(.bool false), (.slice none 0 0), (.bool false), (.slice none 0 0)]) := by unfold Hid; rw [← hW]; exact cel_at (by simp)
  clear kW
  have ca0 := (Pa.out.at (i := 0) rfl)
  have ca1 := (Pa.out.at (i := 1) rfl)
  have ca2 := (Pa.out.at (i := 2) rfl)
  have ca3 := (Pa.out.at (i := 3) rfl)
  rw [← hW] at ca0 ca1 ca2 ca3
  have EW := hid hW
  clear hW
  go_wp2_with fail
  rw [EW.out]
  clear EW
  clear ca0 ca1 ca2 ca3
  refine (is8_yes Zan.out Zad.out HDa.out).mono ?_
  rintro e w23 ⟨rfl, b⟩
  replace Zan := hid (Zan.out.now b)
  replace Zad := hid (Zad.out.now b)
  replace Zbn := hid (Zbn.out.now b)
  replace Zbd := hid (Zbd.out.now b)
  replace Zon := hid (Zon.out.now b)
  replace Zod := hid (Zod.out.now b)
  replace Zsn := hid (Zsn.out.now b)
  replace Zsd := hid (Zsd.out.now b)
  replace Zdn := hid (Zdn.out.now b)
  replace Zdd := hid (Zdd.out.now b)
  replace Zpn := hid (Zpn.out.now b)
  replace Zpd := hid (Zpd.out.now b)
  replace Pa := hid (Pa.out.step b)
  replace Pb := hid (Pb.out.step b)
  replace Po := hid (Po.out.step b)
  replace Ps := hid (Ps.out.step b)
  replace Pd := hid (Pd.out.step b)
  replace Pp := hid (Pp.out.step b)
  replace Pq := hid (Pq.out.step b)
  replace G := hid (below_step G.out b)
  have lz24 := (show Below _ _ _ from b).size
  clear b 
  have ca0 := (Pa.out.at (i := 0) rfl)
  have ca1 := (Pa.out.at (i := 1) rfl)
  have ca2 := (Pa.out.at (i := 2) rfl)
  have ca3 := (Pa.out.at (i := 3) rfl)
  go_wp2_with fail
  clear ca0 ca1 ca2 ca3
  refine (is8_yes Zan.out Zad.out HDa.out).mono ?_
  rintro e w25 ⟨rfl, b⟩
  replace Zan := hid (Zan.out.now b)
  replace Zad := hid (Zad.out.now b)
  replace Zbn := hid (Zbn.out.now b)
  replace Zbd := hid (Zbd.out.now b)
  replace Zon := hid (Zon.out.now b)
  replace Zod := hid (Zod.out.now b)
  replace Zsn := hid (Zsn.out.now b)
  replace Zsd := hid (Zsd.out.now b)
  replace Zdn := hid (Zdn.out.now b)
  replace Zdd := hid (Zdd.out.now b)
  replace Zpn := hid (Zpn.out.now b)
  replace Zpd := hid (Zpd.out.now b)
  replace Pa := hid (Pa.out.step b)
  replace Pb := hid (Pb.out.step b)
  replace Po := hid (Po.out.step b)
  replace Ps := hid (Ps.out.step b)
  replace Pd := hid (Pd.out.step b)
  replace Pp := hid (Pp.out.step b)
  replace Pq := hid (Pq.out.step b)
  replace G := hid (below_step G.out b)
  have lz26 := (show Below _ _ _ from b).size
  clear b 
  have ca0 := (Pa.out.at (i := 0) rfl)
  have ca1 := (Pa.out.at (i := 1) rfl)
  have ca2 := (Pa.out.at (i := 2) rfl)
  have ca3 := (Pa.out.at (i := 3) rfl)
  go_wp2_with fail
  clear ca0 ca1 ca2 ca3
  refine (is8_yes Zan.out Zad.out HDa.out).mono ?_
  rintro e w27 ⟨rfl, b⟩
  replace Zan := hid (Zan.out.now b)
  replace Zad := hid (Zad.out.now b)
  replace Zbn := hid (Zbn.out.now b)
  replace Zbd := hid (Zbd.out.now b)
  replace Zon := hid (Zon.out.now b)
  replace Zod := hid (Zod.out.now b)
  replace Zsn := hid (Zsn.out.now b)
  replace Zsd := hid (Zsd.out.now b)
  replace Zdn := hid (Zdn.out.now b)
  replace Zdd := hid (Zdd.out.now b)
  replace Zpn := hid (Zpn.out.now b)
  replace Zpd := hid (Zpd.out.now b)
  replace Pa := hid (Pa.out.step b)
  replace Pb := hid (Pb.out.step b)
  replace Po := hid (Po.out.step b)
  replace Ps := hid (Ps.out.step b)
  replace Pd := hid (Pd.out.step b)
  replace Pp := hid (Pp.out.step b)
  replace Pq := hid (Pq.out.step b)
  replace G := hid (below_step G.out b)
  have lz28 := (show Below _ _ _ from b).size
  clear b 
  have co0 := (Po.out.at (i := 0) rfl)
  have co1 := (Po.out.at (i := 1) rfl)
  have co2 := (Po.out.at (i := 2) rfl)
  have co3 := (Po.out.at (i := 3) rfl)
  have ca0 := (Pa.out.at (i := 0) rfl)
  have ca1 := (Pa.out.at (i := 1) rfl)
  have ca2 := (Pa.out.at (i := 2) rfl)
  have ca3 := (Pa.out.at (i := 3) rfl)
  go_wp2_with fail
  clear co0 co1 co2 co3 ca0 ca1 ca2 ca3
  refine (names8 Zon.out.zc Zod.out.zc Zan.out Zad.out (by decide) (cross_q HDa.out EQa.out)).mono ?_
  rintro e w29 ⟨rfl, b⟩
  replace Zan := hid (Zan.out.now b)
  replace Zad := hid (Zad.out.now b)
  replace Zbn := hid (Zbn.out.now b)
  replace Zbd := hid (Zbd.out.now b)
  replace Zon := hid (Zon.out.now b)
  replace Zod := hid (Zod.out.now b)
  replace Zsn := hid (Zsn.out.now b)
  replace Zsd := hid (Zsd.out.now b)
  replace Zdn := hid (Zdn.out.now b)
  replace Zdd := hid (Zdd.out.now b)
  replace Zpn := hid (Zpn.out.now b)
  replace Zpd := hid (Zpd.out.now b)
  replace Pa := hid (Pa.out.step b)
  replace Pb := hid (Pb.out.step b)
  replace Po := hid (Po.out.step b)
  replace Ps := hid (Ps.out.step b)
  replace Pd := hid (Pd.out.step b)
  replace Pp := hid (Pp.out.step b)
  replace Pq := hid (Pq.out.step b)
  replace G := hid (below_step G.out b)
  have lz30 := (show Below _ _ _ from b).size
  clear b 
  have ca0 := (Pa.out.at (i := 0) rfl)
  have ca1 := (Pa.out.at (i := 1) rfl)
  have ca2 := (Pa.out.at (i := 2) rfl)
  have ca3 := (Pa.out.at (i := 3) rfl)
  go_wp2_with fail
  clear ca0 ca1 ca2 ca3
  refine (is8_yes Zan.out Zad.out HDa.out).mono ?_
  rintro e w31 ⟨rfl, b⟩
  replace Zan := hid (Zan.out.now b)
  replace Zad := hid (Zad.out.now b)
  replace Zbn := hid (Zbn.out.now b)
  replace Zbd := hid (Zbd.out.now b)
  replace Zon := hid (Zon.out.now b)
  replace Zod := hid (Zod.out.now b)
  replace Zsn := hid (Zsn.out.now b)
  replace Zsd := hid (Zsd.out.now b)
  replace Zdn := hid (Zdn.out.now b)
  replace Zdd := hid (Zdd.out.now b)
  replace Zpn := hid (Zpn.out.now b)
  replace Zpd := hid (Zpd.out.now b)
  replace Pa := hid (Pa.out.step b)
  replace Pb := hid (Pb.out.step b)
  replace Po := hid (Po.out.step b)
  replace Ps := hid (Ps.out.step b)
  replace Pd := hid (Pd.out.step b)
  replace Pp := hid (Pp.out.step b)
  replace Pq := hid (Pq.out.step b)
  replace G := hid (below_step G.out b)
  have lz32 := (show Below _ _ _ from b).size
  clear b 
  have cb0 := (Pb.out.at (i := 0) rfl)
  have cb1 := (Pb.out.at (i := 1) rfl)
  have cb2 := (Pb.out.at (i := 2) rfl)
  have cb3 := (Pb.out.at (i := 3) rfl)
  go_wp2_with fail
  clear cb0 cb1 cb2 cb3
  refine (is8_yes Zbn.out Zbd.out HDb.out).mono ?_
  rintro e w33 ⟨rfl, b⟩
  replace Zan := hid (Zan.out.now b)
  replace Zad := hid (Zad.out.now b)
  replace Zbn := hid (Zbn.out.now b)
  replace Zbd := hid (Zbd.out.now b)
  replace Zon := hid (Zon.out.now b)
  replace Zod := hid (Zod.out.now b)
  replace Zsn := hid (Zsn.out.now b)
  replace Zsd := hid (Zsd.out.now b)
  replace Zdn := hid (Zdn.out.now b)
  replace Zdd := hid (Zdd.out.now b)
  replace Zpn := hid (Zpn.out.now b)
  replace Zpd := hid (Zpd.out.now b)
  replace Pa := hid (Pa.out.step b)
  replace Pb := hid (Pb.out.step b)
  replace Po := hid (Po.out.step b)
  replace Ps := hid (Ps.out.step b)
  replace Pd := hid (Pd.out.step b)
  replace Pp := hid (Pp.out.step b)
  replace Pq := hid (Pq.out.step b)
  replace G := hid (below_step G.out b)
  have lz34 := (show Below _ _ _ from b).size
  clear b 
  have ca0 := (Pa.out.at (i := 0) rfl)
  have ca1 := (Pa.out.at (i := 1) rfl)
  have ca2 := (Pa.out.at (i := 2) rfl)
  have ca3 := (Pa.out.at (i := 3) rfl)
  have cb0 := (Pb.out.at (i := 0) rfl)
  have cb1 := (Pb.out.at (i := 1) rfl)
  have cb2 := (Pb.out.at (i := 2) rfl)
  have cb3 := (Pb.out.at (i := 3) rfl)
  go_wp2_with fail
  clear ca0 ca1 ca2 ca3 cb0 cb1 cb2 cb3
  refine (mul_z Zan.out Zbd.out (by decide)).mono ?_
  rintro e w35 ⟨r0, rfl, m0, b⟩
  obtain ⟨nx, xx, adx, qx, rfl, -, -, -, -, -⟩ := id m0
  replace Zan := hid (Zan.out.now b)
  replace Zad := hid (Zad.out.now b)
  replace Zbn := hid (Zbn.out.now b)
  replace Zbd := hid (Zbd.out.now b)
  replace Zon := hid (Zon.out.now b)
  replace Zod := hid (Zod.out.now b)
  replace Zsn := hid (Zsn.out.now b)
  replace Zsd := hid (Zsd.out.now b)
  replace Zdn := hid (Zdn.out.now b)
  replace Zdd := hid (Zdd.out.now b)
  replace Zpn := hid (Zpn.out.now b)
  replace Zpd := hid (Zpd.out.now b)
  replace Pa := hid (Pa.out.step b)
  replace Pb := hid (Pb.out.step b)
  replace Po := hid (Po.out.step b)
  replace Ps := hid (Ps.out.step b)
  replace Pd := hid (Pd.out.step b)
  replace Pp := hid (Pp.out.step b)
  replace Pq := hid (Pq.out.step b)
  replace G := hid (below_step G.out b)
  have lz36 := (show Below _ _ _ from b).size
  have Zx := hid m0
  clear b m0
  obtain ⟨V37, hW⟩ : ∃ V37, w35.alloc (duo (.bool nx) (.slice adx xx.length qx)) = V37 := ⟨_, rfl⟩
  obtain ⟨kW, sz37⟩ := alloc1 w35 (duo (.bool nx) (.slice adx xx.length qx))
  rw [hW] at kW sz37
  replace Zan := hid (Zan.out.now kW)
  replace Zad := hid (Zad.out.now kW)
  replace Zbn := hid (Zbn.out.now kW)
  replace Zbd := hid (Zbd.out.now kW)
  replace Zon := hid (Zon.out.now kW)
  replace Zod := hid (Zod.out.now kW)
  replace Zsn := hid (Zsn.out.now kW)
  replace Zsd := hid (Zsd.out.now kW)
  replace Zdn := hid (Zdn.out.now kW)
  replace Zdd := hid (Zdd.out.now kW)
  replace Zpn := hid (Zpn.out.now kW)
  replace Zpd := hid (Zpd.out.now kW)
  replace Zx := hid (Zx.out.now kW)
  replace Pa := hid (Pa.out.step kW)
  replace Pb := hid (Pb.out.step kW)
  replace Po := hid (Po.out.step kW)
  replace Ps := hid (Ps.out.step kW)
  replace Pd := hid (Pd.out.step kW)
  replace Pp := hid (Pp.out.step kW)
  replace Pq := hid (Pq.out.step kW)
  replace G := hid (below_step G.out kW)
  have lz38 := (show Below _ _ _ from kW).size
  have Px : Hid (Duo V37 (w35.heap.size) (.bool nx) (.slice adx xx.length qx)) := by unfold Hid; rw [← hW]; exact duo_at (by simp)
  clear kW
  have ca0 := (Pa.out.at (i := 0) rfl)
  have ca1 := (Pa.out.at (i := 1) rfl)
  have ca2 := (Pa.out.at (i := 2) rfl)
  have ca3 := (Pa.out.at (i := 3) rfl)
  have cb0 := (Pb.out.at (i := 0) rfl)
  have cb1 := (Pb.out.at (i := 1) rfl)
  have cb2 := (Pb.out.at (i := 2) rfl)
  have cb3 := (Pb.out.at (i := 3) rfl)
  rw [← hW] at ca0 ca1 ca2 ca3 cb0 cb1 cb2 cb3
  have EW := hid hW
  clear hW
  go_wp2_with fail
  rw [EW.out]
  clear EW
  clear ca0 ca1 ca2 ca3 cb0 cb1 cb2 cb3
  refine (mul_z Zbn.out Zad.out (by decide)).mono ?_
  rintro e w39 ⟨r0, rfl, m0, b⟩
  obtain ⟨ny, xy, ady, qy, rfl, -, -, -, -, -⟩ := id m0
  replace Zan := hid (Zan.out.now b)
  replace Zad := hid (Zad.out.now b)
  replace Zbn := hid (Zbn.out.now b)
  replace Zbd := hid (Zbd.out.now b)
  replace Zon := hid (Zon.out.now b)
  replace Zod := hid (Zod.out.now b)
  replace Zsn := hid (Zsn.out.now b)
  replace Zsd := hid (Zsd.out.now b)
  replace Zdn := hid (Zdn.out.now b)
  replace Zdd := hid (Zdd.out.now b)
  replace Zpn := hid (Zpn.out.now b)
  replace Zpd := hid (Zpd.out.now b)
  replace Zx := hid (Zx.out.now b)
  replace Pa := hid (Pa.out.step b)
  replace Pb := hid (Pb.out.step b)
  replace Po := hid (Po.out.step b)
  replace Ps := hid (Ps.out.step b)
  replace Pd := hid (Pd.out.step b)
  replace Pp := hid (Pp.out.step b)
  replace Pq := hid (Pq.out.step b)
  replace Px := hid (Px.out.step b)
  replace G := hid (below_step G.out b)
  have lz40 := (show Below _ _ _ from b).size
  have Zy := hid m0
  clear b m0
  obtain ⟨V41, hW⟩ : ∃ V41, w39.alloc (duo (.bool ny) (.slice ady xy.length qy)) = V41 := ⟨_, rfl⟩
  obtain ⟨kW, sz41⟩ := alloc1 w39 (duo (.bool ny) (.slice ady xy.length qy))
  rw [hW] at kW sz41
  replace Zan := hid (Zan.out.now kW)
  replace Zad := hid (Zad.out.now kW)
  replace Zbn := hid (Zbn.out.now kW)
  replace Zbd := hid (Zbd.out.now kW)
  replace Zon := hid (Zon.out.now kW)
  replace Zod := hid (Zod.out.now kW)
  replace Zsn := hid (Zsn.out.now kW)
  replace Zsd := hid (Zsd.out.now kW)
  replace Zdn := hid (Zdn.out.now kW)
  replace Zdd := hid (Zdd.out.now kW)
  replace Zpn := hid (Zpn.out.now kW)
  replace Zpd := hid (Zpd.out.now kW)
  replace Zx := hid (Zx.out.now kW)
  replace Zy := hid (Zy.out.now kW)
  replace Pa := hid (Pa.out.step kW)
  replace Pb := hid (Pb.out.step kW)
  replace Po := hid (Po.out.step kW)
  replace Ps := hid (Ps.out.step kW)
  replace Pd := hid (Pd.out.step kW)
  replace Pp := hid (Pp.out.step kW)
  replace Pq := hid (Pq.out.step kW)
  replace Px := hid (Px.out.step kW)
  replace G := hid (below_step G.out kW)
  have lz42 := (show Below _ _ _ from kW).size
  have Py : Hid (Duo V41 (w39.heap.size) (.bool ny) (.slice ady xy.length qy)) := by unfold Hid; rw [← hW]; exact duo_at (by simp)
  clear kW
  have ca0 := (Pa.out.at (i := 0) rfl)
  have ca1 := (Pa.out.at (i := 1) rfl)
  have ca2 := (Pa.out.at (i := 2) rfl)
  have ca3 := (Pa.out.at (i := 3) rfl)
  have cb0 := (Pb.out.at (i := 0) rfl)
  have cb1 := (Pb.out.at (i := 1) rfl)
  have cb2 := (Pb.out.at (i := 2) rfl)
  have cb3 := (Pb.out.at (i := 3) rfl)
  rw [← hW] at ca0 ca1 ca2 ca3 cb0 cb1 cb2 cb3
  have EW := hid hW
  clear hW
  go_wp2_with fail
  rw [EW.out]
  clear EW
  clear ca0 ca1 ca2 ca3 cb0 cb1 cb2 cb3
  refine (mul_z Zad.out Zbd.out (by decide)).mono ?_
  rintro e w43 ⟨r0, rfl, m0, b⟩
  obtain ⟨nz, xz, adz, qz, rfl, -, -, -, -, -⟩ := id m0
  replace Zan := hid (Zan.out.now b)
  replace Zad := hid (Zad.out.now b)
  replace Zbn := hid (Zbn.out.now b)
  replace Zbd := hid (Zbd.out.now b)
  replace Zon := hid (Zon.out.now b)
  replace Zod := hid (Zod.out.now b)
  replace Zsn := hid (Zsn.out.now b)
  replace Zsd := hid (Zsd.out.now b)
  replace Zdn := hid (Zdn.out.now b)
  replace Zdd := hid (Zdd.out.now b)
  replace Zpn := hid (Zpn.out.now b)
  replace Zpd := hid (Zpd.out.now b)
  replace Zx := hid (Zx.out.now b)
  replace Zy := hid (Zy.out.now b)
  replace Pa := hid (Pa.out.step b)
  replace Pb := hid (Pb.out.step b)
  replace Po := hid (Po.out.step b)
  replace Ps := hid (Ps.out.step b)
  replace Pd := hid (Pd.out.step b)
  replace Pp := hid (Pp.out.step b)
  replace Pq := hid (Pq.out.step b)
  replace Px := hid (Px.out.step b)
  replace Py := hid (Py.out.step b)
  replace G := hid (below_step G.out b)
  have lz44 := (show Below _ _ _ from b).size
  have Zz := hid m0
  clear b m0
  obtain ⟨V45, hW⟩ : ∃ V45, w43.alloc (duo (.bool nz) (.slice adz xz.length qz)) = V45 := ⟨_, rfl⟩
  obtain ⟨kW, sz45⟩ := alloc1 w43 (duo (.bool nz) (.slice adz xz.length qz))
  rw [hW] at kW sz45
  replace Zan := hid (Zan.out.now kW)
  replace Zad := hid (Zad.out.now kW)
  replace Zbn := hid (Zbn.out.now kW)
  replace Zbd := hid (Zbd.out.now kW)
  replace Zon := hid (Zon.out.now kW)
  replace Zod := hid (Zod.out.now kW)
  replace Zsn := hid (Zsn.out.now kW)
  replace Zsd := hid (Zsd.out.now kW)
  replace Zdn := hid (Zdn.out.now kW)
  replace Zdd := hid (Zdd.out.now kW)
  replace Zpn := hid (Zpn.out.now kW)
  replace Zpd := hid (Zpd.out.now kW)
  replace Zx := hid (Zx.out.now kW)
  replace Zy := hid (Zy.out.now kW)
  replace Zz := hid (Zz.out.now kW)
  replace Pa := hid (Pa.out.step kW)
  replace Pb := hid (Pb.out.step kW)
  replace Po := hid (Po.out.step kW)
  replace Ps := hid (Ps.out.step kW)
  replace Pd := hid (Pd.out.step kW)
  replace Pp := hid (Pp.out.step kW)
  replace Pq := hid (Pq.out.step kW)
  replace Px := hid (Px.out.step kW)
  replace Py := hid (Py.out.step kW)
  replace G := hid (below_step G.out kW)
  have lz46 := (show Below _ _ _ from kW).size
  have Pz : Hid (Duo V45 (w43.heap.size) (.bool nz) (.slice adz xz.length qz)) := by unfold Hid; rw [← hW]; exact duo_at (by simp)
  clear kW
  have NZ := hid (nz_mul HDa.out HDb.out)
  have CS : Hid (qs.num * (AD * BD) = (AN * BD + BN * AD) * (qs.den : Int)) := cross_q NZ.out (by rw [EQs.out, add_as HDa.out HDb.out EQa.out EQb.out])
  have CD : Hid (qd.num * (AD * BD) = (AN * BD - BN * AD) * (qd.den : Int)) := by have h := cross_q (q := qd) NZ.out (by rw [EQd.out, ← sub_as HDa.out HDb.out EQa.out EQb.out]); rw [sub_as'] at h; exact h
  have CP : Hid (qp.num * (AD * BD) = (AN * BN) * (qp.den : Int)) := cross_q NZ.out (by rw [EQp.out, mul_as EQa.out EQb.out])
  have q1 : ((0 : Int) != 0) = false := rfl
  have EW := hid hW
  clear hW
  go_wp2_with fail
  rw [EW.out]
  clear EW
  refine wp_region_tail (fun w' => w'.cell? ⟨w7.heap.size, 0, none⟩ = some (.bool nsn) ∧ w'.cell? ⟨w7.heap.size, 1, none⟩ = some (.slice adsn xsn.length qsn) ∧ w'.cell? ⟨w7.heap.size, 2, none⟩ = some (.bool nsd) ∧ w'.cell? ⟨w7.heap.size, 3, none⟩ = some (.slice adsd xsd.length qsd) ∧ w'.cell? ⟨w35.heap.size, 0, none⟩ = some (.bool nx) ∧ w'.cell? ⟨w35.heap.size, 1, none⟩ = some (.slice adx xx.length qx) ∧ w'.cell? ⟨w39.heap.size, 0, none⟩ = some (.bool ny) ∧ w'.cell? ⟨w39.heap.size, 1, none⟩ = some (.slice ady xy.length qy) ∧ w'.cell? ⟨w43.heap.size, 0, none⟩ = some (.bool nz) ∧ w'.cell? ⟨w43.heap.size, 1, none⟩ = some (.slice adz xz.length qz) ∧ w'.cell? ⟨w11.heap.size, 0, none⟩ = some (.bool ndn) ∧ w'.cell? ⟨w11.heap.size, 1, none⟩ = some (.slice addn xdn.length qdn) ∧ w'.cell? ⟨w11.heap.size, 2, none⟩ = some (.bool ndd) ∧ w'.cell? ⟨w11.heap.size, 3, none⟩ = some (.slice addd xdd.length qdd) ∧ w'.cell? ⟨w15.heap.size, 0, none⟩ = some (.bool npn) ∧ w'.cell? ⟨w15.heap.size, 1, none⟩ = some (.slice adpn xpn.length qpn) ∧ w'.cell? ⟨w15.heap.size, 2, none⟩ = some (.bool npd) ∧ w'.cell? ⟨w15.heap.size, 3, none⟩ = some (.slice adpd xpd.length qpd) ∧ w'.cell? ⟨w.heap.size, 0, none⟩ = some (.bool nan) ∧ w'.cell? ⟨w.heap.size, 1, none⟩ = some (.slice adan xan.length can) ∧ w'.cell? ⟨w.heap.size, 2, none⟩ = some (.bool nad) ∧ w'.cell? ⟨w.heap.size, 3, none⟩ = some (.slice adad xad.length cad) ∧ w'.cell? ⟨w.heap.size + 1, 0, none⟩ = some (.bool nbn) ∧ w'.cell? ⟨w.heap.size + 1, 1, none⟩ = some (.slice adbn xbn.length cbn) ∧ w'.cell? ⟨w.heap.size + 1, 2, none⟩ = some (.bool nbd) ∧ w'.cell? ⟨w.heap.size + 1, 3, none⟩ = some (.slice adbd xbd.length cbd)) 38 (by kernel_rfl) ?_
  obtain ⟨D47, hD⟩ : ∃ D47, V45.drew = D47 := ⟨_, rfl⟩
  have b : Below V45.heap.size V45 D47 := by rw [← hD]; exact (Below.refl _ _).drew
  rw [hD]
  clear hD
  replace Zan := hid (Zan.out.now b)
  replace Zad := hid (Zad.out.now b)
  replace Zbn := hid (Zbn.out.now b)
  replace Zbd := hid (Zbd.out.now b)
  replace Zon := hid (Zon.out.now b)
  replace Zod := hid (Zod.out.now b)
  replace Zsn := hid (Zsn.out.now b)
  replace Zsd := hid (Zsd.out.now b)
  replace Zdn := hid (Zdn.out.now b)
  replace Zdd := hid (Zdd.out.now b)
  replace Zpn := hid (Zpn.out.now b)
  replace Zpd := hid (Zpd.out.now b)
  replace Zx := hid (Zx.out.now b)
  replace Zy := hid (Zy.out.now b)
  replace Zz := hid (Zz.out.now b)
  replace Pa := hid (Pa.out.step b)
  replace Pb := hid (Pb.out.step b)
  replace Po := hid (Po.out.step b)
  replace Ps := hid (Ps.out.step b)
  replace Pd := hid (Pd.out.step b)
  replace Pp := hid (Pp.out.step b)
  replace Pq := hid (Pq.out.step b)
  replace Px := hid (Px.out.step b)
  replace Py := hid (Py.out.step b)
  replace Pz := hid (Pz.out.step b)
  replace G := hid (below_step G.out b)
  have lz48 := (show Below _ _ _ from b).size
  clear b
  refine wpAnyT_take (i := 0) (oi := { dst := some 112, op := Op.move (Operand.tmp 8), type := 28, pos := "outright.go:48", after := #[], guard := none }) (v := (.int .i64 0)) rfl (by kernel_rfl) (fun _ _ _ h => h) (Or.inl ⟨by rfl, ?_⟩) ⟨(Ps.out.at (i := 0) rfl), (Ps.out.at (i := 1) rfl), (Ps.out.at (i := 2) rfl), (Ps.out.at (i := 3) rfl), Px.out.c0, Px.out.c1, Py.out.c0, Py.out.c1, Pz.out.c0, Pz.out.c1, (Pd.out.at (i := 0) rfl), (Pd.out.at (i := 1) rfl), (Pd.out.at (i := 2) rfl), (Pd.out.at (i := 3) rfl), (Pp.out.at (i := 0) rfl), (Pp.out.at (i := 1) rfl), (Pp.out.at (i := 2) rfl), (Pp.out.at (i := 3) rfl), (Pa.out.at (i := 0) rfl), (Pa.out.at (i := 1) rfl), (Pa.out.at (i := 2) rfl), (Pa.out.at (i := 3) rfl), (Pb.out.at (i := 0) rfl), (Pb.out.at (i := 1) rfl), (Pb.out.at (i := 2) rfl), (Pb.out.at (i := 3) rfl)⟩ ?_
  · intro w hSw
    (try dsimp only at hSw)
    go_simp
  simp only [Act.put, List.setIfInBounds_toArray, List.set_cons_zero, List.set_cons_succ]
  refine wpAnyT_take (i := 1) (oi := { dst := some 113, op := Op.binOp BinOp.neq 28 (Operand.tmp 112) (Operand.const (Value.int IntKind.i64 0)) 28, type := 4, pos := "outright.go:48", after := #[{ on := 0, ground := Ground.data }], guard := none }) (v := (.bool false)) rfl (by kernel_rfl) (fun _ _ _ h => h) (Or.inl ⟨by rfl, ?_⟩) ⟨(Ps.out.at (i := 0) rfl), (Ps.out.at (i := 1) rfl), (Ps.out.at (i := 2) rfl), (Ps.out.at (i := 3) rfl), Px.out.c0, Px.out.c1, Py.out.c0, Py.out.c1, Pz.out.c0, Pz.out.c1, (Pd.out.at (i := 0) rfl), (Pd.out.at (i := 1) rfl), (Pd.out.at (i := 2) rfl), (Pd.out.at (i := 3) rfl), (Pp.out.at (i := 0) rfl), (Pp.out.at (i := 1) rfl), (Pp.out.at (i := 2) rfl), (Pp.out.at (i := 3) rfl), (Pa.out.at (i := 0) rfl), (Pa.out.at (i := 1) rfl), (Pa.out.at (i := 2) rfl), (Pa.out.at (i := 3) rfl), (Pb.out.at (i := 0) rfl), (Pb.out.at (i := 1) rfl), (Pb.out.at (i := 2) rfl), (Pb.out.at (i := 3) rfl)⟩ ?_
  · intro w hSw
    (try dsimp only at hSw)
    go_simp
  simp only [Act.put, List.setIfInBounds_toArray, List.set_cons_zero, List.set_cons_succ]
  refine wpAnyT_take (i := 2) (oi := { dst := some 114, op := Op.move (Operand.tmp 113), type := 4, pos := "outright.go:48", after := #[{ on := 1, ground := Ground.data }], guard := none }) (v := (.bool false)) rfl (by kernel_rfl) (fun _ _ _ h => h) (Or.inl ⟨by rfl, ?_⟩) ⟨(Ps.out.at (i := 0) rfl), (Ps.out.at (i := 1) rfl), (Ps.out.at (i := 2) rfl), (Ps.out.at (i := 3) rfl), Px.out.c0, Px.out.c1, Py.out.c0, Py.out.c1, Pz.out.c0, Pz.out.c1, (Pd.out.at (i := 0) rfl), (Pd.out.at (i := 1) rfl), (Pd.out.at (i := 2) rfl), (Pd.out.at (i := 3) rfl), (Pp.out.at (i := 0) rfl), (Pp.out.at (i := 1) rfl), (Pp.out.at (i := 2) rfl), (Pp.out.at (i := 3) rfl), (Pa.out.at (i := 0) rfl), (Pa.out.at (i := 1) rfl), (Pa.out.at (i := 2) rfl), (Pa.out.at (i := 3) rfl), (Pb.out.at (i := 0) rfl), (Pb.out.at (i := 1) rfl), (Pb.out.at (i := 2) rfl), (Pb.out.at (i := 3) rfl)⟩ ?_
  · intro w hSw
    (try dsimp only at hSw)
    go_simp
  simp only [Act.put, List.setIfInBounds_toArray, List.set_cons_zero, List.set_cons_succ]
  refine wpAnyT_take (i := 3) (oi := { dst := some 115, op := Op.move (Operand.tmp 10), type := 28, pos := "outright.go:48", after := #[{ on := 2, ground := Ground.guard }], guard := some (2, false) }) (v := (.int .i64 0)) rfl (by kernel_rfl) (fun _ _ _ h => h) (Or.inl ⟨by rfl, ?_⟩) ⟨(Ps.out.at (i := 0) rfl), (Ps.out.at (i := 1) rfl), (Ps.out.at (i := 2) rfl), (Ps.out.at (i := 3) rfl), Px.out.c0, Px.out.c1, Py.out.c0, Py.out.c1, Pz.out.c0, Pz.out.c1, (Pd.out.at (i := 0) rfl), (Pd.out.at (i := 1) rfl), (Pd.out.at (i := 2) rfl), (Pd.out.at (i := 3) rfl), (Pp.out.at (i := 0) rfl), (Pp.out.at (i := 1) rfl), (Pp.out.at (i := 2) rfl), (Pp.out.at (i := 3) rfl), (Pa.out.at (i := 0) rfl), (Pa.out.at (i := 1) rfl), (Pa.out.at (i := 2) rfl), (Pa.out.at (i := 3) rfl), (Pb.out.at (i := 0) rfl), (Pb.out.at (i := 1) rfl), (Pb.out.at (i := 2) rfl), (Pb.out.at (i := 3) rfl)⟩ ?_
  · intro w hSw
    (try dsimp only at hSw)
    go_simp
  simp only [Act.put, List.setIfInBounds_toArray, List.set_cons_zero, List.set_cons_succ]
  refine wpAnyT_take (i := 4) (oi := { dst := some 116, op := Op.binOp BinOp.neq 28 (Operand.tmp 115) (Operand.const (Value.int IntKind.i64 0)) 28, type := 4, pos := "outright.go:48", after := #[{ on := 3, ground := Ground.data }, { on := 2, ground := Ground.guard }], guard := some (2, false) }) (v := (.bool false)) rfl (by kernel_rfl) (fun _ _ _ h => h) (Or.inl ⟨by rfl, ?_⟩) ⟨(Ps.out.at (i := 0) rfl), (Ps.out.at (i := 1) rfl), (Ps.out.at (i := 2) rfl), (Ps.out.at (i := 3) rfl), Px.out.c0, Px.out.c1, Py.out.c0, Py.out.c1, Pz.out.c0, Pz.out.c1, (Pd.out.at (i := 0) rfl), (Pd.out.at (i := 1) rfl), (Pd.out.at (i := 2) rfl), (Pd.out.at (i := 3) rfl), (Pp.out.at (i := 0) rfl), (Pp.out.at (i := 1) rfl), (Pp.out.at (i := 2) rfl), (Pp.out.at (i := 3) rfl), (Pa.out.at (i := 0) rfl), (Pa.out.at (i := 1) rfl), (Pa.out.at (i := 2) rfl), (Pa.out.at (i := 3) rfl), (Pb.out.at (i := 0) rfl), (Pb.out.at (i := 1) rfl), (Pb.out.at (i := 2) rfl), (Pb.out.at (i := 3) rfl)⟩ ?_
  · intro w hSw
    (try dsimp only at hSw)
    go_simp
  simp only [Act.put, List.setIfInBounds_toArray, List.set_cons_zero, List.set_cons_succ]
  refine wpAnyT_take (i := 5) (oi := { dst := some 117, op := Op.pick (Operand.tmp 114) (Operand.const (Value.bool true)) (Operand.tmp 116), type := 4, pos := "outright.go:48", after := #[{ on := 2, ground := Ground.data }, { on := 4, ground := Ground.data }], guard := none }) (v := (.bool false)) rfl (by kernel_rfl) (fun _ _ _ h => h) (Or.inl ⟨by rfl, ?_⟩) ⟨(Ps.out.at (i := 0) rfl), (Ps.out.at (i := 1) rfl), (Ps.out.at (i := 2) rfl), (Ps.out.at (i := 3) rfl), Px.out.c0, Px.out.c1, Py.out.c0, Py.out.c1, Pz.out.c0, Pz.out.c1, (Pd.out.at (i := 0) rfl), (Pd.out.at (i := 1) rfl), (Pd.out.at (i := 2) rfl), (Pd.out.at (i := 3) rfl), (Pp.out.at (i := 0) rfl), (Pp.out.at (i := 1) rfl), (Pp.out.at (i := 2) rfl), (Pp.out.at (i := 3) rfl), (Pa.out.at (i := 0) rfl), (Pa.out.at (i := 1) rfl), (Pa.out.at (i := 2) rfl), (Pa.out.at (i := 3) rfl), (Pb.out.at (i := 0) rfl), (Pb.out.at (i := 1) rfl), (Pb.out.at (i := 2) rfl), (Pb.out.at (i := 3) rfl)⟩ ?_
  · intro w hSw
    (try dsimp only at hSw)
    go_simp
  simp only [Act.put, List.setIfInBounds_toArray, List.set_cons_zero, List.set_cons_succ]
  refine wpAnyT_take (i := 6) (oi := { dst := some 118, op := Op.move (Operand.tmp 117), type := 4, pos := "outright.go:48", after := #[{ on := 5, ground := Ground.data }, { on := 2, ground := Ground.chain }], guard := none }) (v := (.bool false)) rfl (by kernel_rfl) (fun _ _ _ h => h) (Or.inl ⟨by rfl, ?_⟩) ⟨(Ps.out.at (i := 0) rfl), (Ps.out.at (i := 1) rfl), (Ps.out.at (i := 2) rfl), (Ps.out.at (i := 3) rfl), Px.out.c0, Px.out.c1, Py.out.c0, Py.out.c1, Pz.out.c0, Pz.out.c1, (Pd.out.at (i := 0) rfl), (Pd.out.at (i := 1) rfl), (Pd.out.at (i := 2) rfl), (Pd.out.at (i := 3) rfl), (Pp.out.at (i := 0) rfl), (Pp.out.at (i := 1) rfl), (Pp.out.at (i := 2) rfl), (Pp.out.at (i := 3) rfl), (Pa.out.at (i := 0) rfl), (Pa.out.at (i := 1) rfl), (Pa.out.at (i := 2) rfl), (Pa.out.at (i := 3) rfl), (Pb.out.at (i := 0) rfl), (Pb.out.at (i := 1) rfl), (Pb.out.at (i := 2) rfl), (Pb.out.at (i := 3) rfl)⟩ ?_
  · intro w hSw
    (try dsimp only at hSw)
    go_simp
  simp only [Act.put, List.setIfInBounds_toArray, List.set_cons_zero, List.set_cons_succ]
  refine wpAnyT_take (i := 7) (oi := { dst := some 119, op := Op.move (Operand.tmp 12), type := 28, pos := "outright.go:48", after := #[{ on := 6, ground := Ground.guard }], guard := some (6, false) }) (v := (.int .i64 0)) rfl (by kernel_rfl) (fun _ _ _ h => h) (Or.inl ⟨by rfl, ?_⟩) ⟨(Ps.out.at (i := 0) rfl), (Ps.out.at (i := 1) rfl), (Ps.out.at (i := 2) rfl), (Ps.out.at (i := 3) rfl), Px.out.c0, Px.out.c1, Py.out.c0, Py.out.c1, Pz.out.c0, Pz.out.c1, (Pd.out.at (i := 0) rfl), (Pd.out.at (i := 1) rfl), (Pd.out.at (i := 2) rfl), (Pd.out.at (i := 3) rfl), (Pp.out.at (i := 0) rfl), (Pp.out.at (i := 1) rfl), (Pp.out.at (i := 2) rfl), (Pp.out.at (i := 3) rfl), (Pa.out.at (i := 0) rfl), (Pa.out.at (i := 1) rfl), (Pa.out.at (i := 2) rfl), (Pa.out.at (i := 3) rfl), (Pb.out.at (i := 0) rfl), (Pb.out.at (i := 1) rfl), (Pb.out.at (i := 2) rfl), (Pb.out.at (i := 3) rfl)⟩ ?_
  · intro w hSw
    (try dsimp only at hSw)
    go_simp
  simp only [Act.put, List.setIfInBounds_toArray, List.set_cons_zero, List.set_cons_succ]
  refine wpAnyT_take (i := 8) (oi := { dst := some 120, op := Op.binOp BinOp.neq 28 (Operand.tmp 119) (Operand.const (Value.int IntKind.i64 0)) 28, type := 4, pos := "outright.go:48", after := #[{ on := 7, ground := Ground.data }, { on := 6, ground := Ground.guard }], guard := some (6, false) }) (v := (.bool false)) rfl (by kernel_rfl) (fun _ _ _ h => h) (Or.inl ⟨by rfl, ?_⟩) ⟨(Ps.out.at (i := 0) rfl), (Ps.out.at (i := 1) rfl), (Ps.out.at (i := 2) rfl), (Ps.out.at (i := 3) rfl), Px.out.c0, Px.out.c1, Py.out.c0, Py.out.c1, Pz.out.c0, Pz.out.c1, (Pd.out.at (i := 0) rfl), (Pd.out.at (i := 1) rfl), (Pd.out.at (i := 2) rfl), (Pd.out.at (i := 3) rfl), (Pp.out.at (i := 0) rfl), (Pp.out.at (i := 1) rfl), (Pp.out.at (i := 2) rfl), (Pp.out.at (i := 3) rfl), (Pa.out.at (i := 0) rfl), (Pa.out.at (i := 1) rfl), (Pa.out.at (i := 2) rfl), (Pa.out.at (i := 3) rfl), (Pb.out.at (i := 0) rfl), (Pb.out.at (i := 1) rfl), (Pb.out.at (i := 2) rfl), (Pb.out.at (i := 3) rfl)⟩ ?_
  · intro w hSw
    (try dsimp only at hSw)
    go_simp
  simp only [Act.put, List.setIfInBounds_toArray, List.set_cons_zero, List.set_cons_succ]
  refine wpAnyT_take (i := 9) (oi := { dst := some 121, op := Op.pick (Operand.tmp 118) (Operand.const (Value.bool true)) (Operand.tmp 120), type := 4, pos := "outright.go:48", after := #[{ on := 6, ground := Ground.data }, { on := 8, ground := Ground.data }], guard := none }) (v := (.bool false)) rfl (by kernel_rfl) (fun _ _ _ h => h) (Or.inl ⟨by rfl, ?_⟩) ⟨(Ps.out.at (i := 0) rfl), (Ps.out.at (i := 1) rfl), (Ps.out.at (i := 2) rfl), (Ps.out.at (i := 3) rfl), Px.out.c0, Px.out.c1, Py.out.c0, Py.out.c1, Pz.out.c0, Pz.out.c1, (Pd.out.at (i := 0) rfl), (Pd.out.at (i := 1) rfl), (Pd.out.at (i := 2) rfl), (Pd.out.at (i := 3) rfl), (Pp.out.at (i := 0) rfl), (Pp.out.at (i := 1) rfl), (Pp.out.at (i := 2) rfl), (Pp.out.at (i := 3) rfl), (Pa.out.at (i := 0) rfl), (Pa.out.at (i := 1) rfl), (Pa.out.at (i := 2) rfl), (Pa.out.at (i := 3) rfl), (Pb.out.at (i := 0) rfl), (Pb.out.at (i := 1) rfl), (Pb.out.at (i := 2) rfl), (Pb.out.at (i := 3) rfl)⟩ ?_
  · intro w hSw
    (try dsimp only at hSw)
    go_simp
  simp only [Act.put, List.setIfInBounds_toArray, List.set_cons_zero, List.set_cons_succ]
  refine wpAnyT_take (i := 10) (oi := { dst := some 122, op := Op.move (Operand.tmp 121), type := 4, pos := "outright.go:48", after := #[{ on := 9, ground := Ground.data }, { on := 6, ground := Ground.chain }], guard := none }) (v := (.bool false)) rfl (by kernel_rfl) (fun _ _ _ h => h) (Or.inl ⟨by rfl, ?_⟩) ⟨(Ps.out.at (i := 0) rfl), (Ps.out.at (i := 1) rfl), (Ps.out.at (i := 2) rfl), (Ps.out.at (i := 3) rfl), Px.out.c0, Px.out.c1, Py.out.c0, Py.out.c1, Pz.out.c0, Pz.out.c1, (Pd.out.at (i := 0) rfl), (Pd.out.at (i := 1) rfl), (Pd.out.at (i := 2) rfl), (Pd.out.at (i := 3) rfl), (Pp.out.at (i := 0) rfl), (Pp.out.at (i := 1) rfl), (Pp.out.at (i := 2) rfl), (Pp.out.at (i := 3) rfl), (Pa.out.at (i := 0) rfl), (Pa.out.at (i := 1) rfl), (Pa.out.at (i := 2) rfl), (Pa.out.at (i := 3) rfl), (Pb.out.at (i := 0) rfl), (Pb.out.at (i := 1) rfl), (Pb.out.at (i := 2) rfl), (Pb.out.at (i := 3) rfl)⟩ ?_
  · intro w hSw
    (try dsimp only at hSw)
    go_simp
  simp only [Act.put, List.setIfInBounds_toArray, List.set_cons_zero, List.set_cons_succ]
  refine wpAnyT_take (i := 11) (oi := { dst := some 123, op := Op.load 26 (Operand.tmp 7), type := 26, pos := "outright.go:48", after := #[{ on := 10, ground := Ground.guard }], guard := some (10, false) }) (v := (.agg #[(.bool nsn), (.slice adsn xsn.length qsn), (.bool nsd), (.slice adsd xsd.length qsd)])) rfl (by kernel_rfl) (fun _ _ _ h => h) (Or.inl ⟨by rfl, ?_⟩) ⟨(Ps.out.at (i := 0) rfl), (Ps.out.at (i := 1) rfl), (Ps.out.at (i := 2) rfl), (Ps.out.at (i := 3) rfl), Px.out.c0, Px.out.c1, Py.out.c0, Py.out.c1, Pz.out.c0, Pz.out.c1, (Pd.out.at (i := 0) rfl), (Pd.out.at (i := 1) rfl), (Pd.out.at (i := 2) rfl), (Pd.out.at (i := 3) rfl), (Pp.out.at (i := 0) rfl), (Pp.out.at (i := 1) rfl), (Pp.out.at (i := 2) rfl), (Pp.out.at (i := 3) rfl), (Pa.out.at (i := 0) rfl), (Pa.out.at (i := 1) rfl), (Pa.out.at (i := 2) rfl), (Pa.out.at (i := 3) rfl), (Pb.out.at (i := 0) rfl), (Pb.out.at (i := 1) rfl), (Pb.out.at (i := 2) rfl), (Pb.out.at (i := 3) rfl)⟩ ?_
  · intro w hSw
    (try dsimp only at hSw)
    go_simp
  simp only [Act.put, List.setIfInBounds_toArray, List.set_cons_zero, List.set_cons_succ]
  refine wpAnyT_take (i := 12) (oi := { dst := some 124, op := Op.load 24 (Operand.tmp 15), type := 24, pos := "outright.go:48", after := #[{ on := 10, ground := Ground.guard }], guard := some (10, false) }) (v := (.agg #[(.bool nx), (.slice adx xx.length qx)])) rfl (by kernel_rfl) (fun _ _ _ h => h) (Or.inl ⟨by rfl, ?_⟩) ⟨(Ps.out.at (i := 0) rfl), (Ps.out.at (i := 1) rfl), (Ps.out.at (i := 2) rfl), (Ps.out.at (i := 3) rfl), Px.out.c0, Px.out.c1, Py.out.c0, Py.out.c1, Pz.out.c0, Pz.out.c1, (Pd.out.at (i := 0) rfl), (Pd.out.at (i := 1) rfl), (Pd.out.at (i := 2) rfl), (Pd.out.at (i := 3) rfl), (Pp.out.at (i := 0) rfl), (Pp.out.at (i := 1) rfl), (Pp.out.at (i := 2) rfl), (Pp.out.at (i := 3) rfl), (Pa.out.at (i := 0) rfl), (Pa.out.at (i := 1) rfl), (Pa.out.at (i := 2) rfl), (Pa.out.at (i := 3) rfl), (Pb.out.at (i := 0) rfl), (Pb.out.at (i := 1) rfl), (Pb.out.at (i := 2) rfl), (Pb.out.at (i := 3) rfl)⟩ ?_
  · intro w hSw
    (try dsimp only at hSw)
    go_simp
  simp only [Act.put, List.setIfInBounds_toArray, List.set_cons_zero, List.set_cons_succ]
  refine wpAnyT_take (i := 13) (oi := { dst := some 125, op := Op.load 24 (Operand.tmp 16), type := 24, pos := "outright.go:48", after := #[{ on := 10, ground := Ground.guard }], guard := some (10, false) }) (v := (.agg #[(.bool ny), (.slice ady xy.length qy)])) rfl (by kernel_rfl) (fun _ _ _ h => h) (Or.inl ⟨by rfl, ?_⟩) ⟨(Ps.out.at (i := 0) rfl), (Ps.out.at (i := 1) rfl), (Ps.out.at (i := 2) rfl), (Ps.out.at (i := 3) rfl), Px.out.c0, Px.out.c1, Py.out.c0, Py.out.c1, Pz.out.c0, Pz.out.c1, (Pd.out.at (i := 0) rfl), (Pd.out.at (i := 1) rfl), (Pd.out.at (i := 2) rfl), (Pd.out.at (i := 3) rfl), (Pp.out.at (i := 0) rfl), (Pp.out.at (i := 1) rfl), (Pp.out.at (i := 2) rfl), (Pp.out.at (i := 3) rfl), (Pa.out.at (i := 0) rfl), (Pa.out.at (i := 1) rfl), (Pa.out.at (i := 2) rfl), (Pa.out.at (i := 3) rfl), (Pb.out.at (i := 0) rfl), (Pb.out.at (i := 1) rfl), (Pb.out.at (i := 2) rfl), (Pb.out.at (i := 3) rfl)⟩ ?_
  · intro w hSw
    (try dsimp only at hSw)
    go_simp
  simp only [Act.put, List.setIfInBounds_toArray, List.set_cons_zero, List.set_cons_succ]
  refine wpAnyT_take (i := 15) (oi := { dst := some 127, op := Op.load 24 (Operand.tmp 17), type := 24, pos := "outright.go:48", after := #[{ on := 10, ground := Ground.guard }], guard := some (10, false) }) (v := (.agg #[(.bool nz), (.slice adz xz.length qz)])) rfl (by kernel_rfl) (fun _ _ _ h => h) (Or.inl ⟨by rfl, ?_⟩) ⟨(Ps.out.at (i := 0) rfl), (Ps.out.at (i := 1) rfl), (Ps.out.at (i := 2) rfl), (Ps.out.at (i := 3) rfl), Px.out.c0, Px.out.c1, Py.out.c0, Py.out.c1, Pz.out.c0, Pz.out.c1, (Pd.out.at (i := 0) rfl), (Pd.out.at (i := 1) rfl), (Pd.out.at (i := 2) rfl), (Pd.out.at (i := 3) rfl), (Pp.out.at (i := 0) rfl), (Pp.out.at (i := 1) rfl), (Pp.out.at (i := 2) rfl), (Pp.out.at (i := 3) rfl), (Pa.out.at (i := 0) rfl), (Pa.out.at (i := 1) rfl), (Pa.out.at (i := 2) rfl), (Pa.out.at (i := 3) rfl), (Pb.out.at (i := 0) rfl), (Pb.out.at (i := 1) rfl), (Pb.out.at (i := 2) rfl), (Pb.out.at (i := 3) rfl)⟩ ?_
  · intro w hSw
    (try dsimp only at hSw)
    go_simp
  simp only [Act.put, List.setIfInBounds_toArray, List.set_cons_zero, List.set_cons_succ]
  refine wpAnyT_one (i := 14) (o := { dst := some 126, op := Op.call { callee := Callee.value (Operand.func 17), args := #[Operand.tmp 124, Operand.tmp 125], argTypes := #[24, 24] }, type := 24, pos := "outright.go:48", after := #[{ on := 12, ground := Ground.data }, { on := 13, ground := Ground.data }, { on := 10, ground := Ground.chain }, { on := 10, ground := Ground.guard }], guard := some (10, false) }) (by kernel_rfl) rfl (fun K hK => ?_)
  go_simp
  go_at_call 17
  refine (add_z Zx.out.zi Zy.out.zi (by decide) (by decide)).mono ?_
  rintro e w49 ⟨r0, rfl, m0, b⟩
  obtain ⟨nu, xu, adu, qu, rfl, -, -, -, -, -⟩ := id m0
  replace Zan := hid (Zan.out.now b)
  replace Zad := hid (Zad.out.now b)
  replace Zbn := hid (Zbn.out.now b)
  replace Zbd := hid (Zbd.out.now b)
  replace Zon := hid (Zon.out.now b)
  replace Zod := hid (Zod.out.now b)
  replace Zsn := hid (Zsn.out.now b)
  replace Zsd := hid (Zsd.out.now b)
  replace Zdn := hid (Zdn.out.now b)
  replace Zdd := hid (Zdd.out.now b)
  replace Zpn := hid (Zpn.out.now b)
  replace Zpd := hid (Zpd.out.now b)
  replace Zx := hid (Zx.out.now b)
  replace Zy := hid (Zy.out.now b)
  replace Zz := hid (Zz.out.now b)
  replace Pa := hid (Pa.out.step b)
  replace Pb := hid (Pb.out.step b)
  replace Po := hid (Po.out.step b)
  replace Ps := hid (Ps.out.step b)
  replace Pd := hid (Pd.out.step b)
  replace Pp := hid (Pp.out.step b)
  replace Pq := hid (Pq.out.step b)
  replace Px := hid (Px.out.step b)
  replace Py := hid (Py.out.step b)
  replace Pz := hid (Pz.out.step b)
  replace G := hid (below_step G.out b)
  have lz50 := (show Below _ _ _ from b).size
  have Zu := hid m0
  clear b m0
  refine hK.out _ _ (fun _ => ⟨(Ps.out.at (i := 0) rfl), (Ps.out.at (i := 1) rfl), (Ps.out.at (i := 2) rfl), (Ps.out.at (i := 3) rfl), Px.out.c0, Px.out.c1, Py.out.c0, Py.out.c1, Pz.out.c0, Pz.out.c1, (Pd.out.at (i := 0) rfl), (Pd.out.at (i := 1) rfl), (Pd.out.at (i := 2) rfl), (Pd.out.at (i := 3) rfl), (Pp.out.at (i := 0) rfl), (Pp.out.at (i := 1) rfl), (Pp.out.at (i := 2) rfl), (Pp.out.at (i := 3) rfl), (Pa.out.at (i := 0) rfl), (Pa.out.at (i := 1) rfl), (Pa.out.at (i := 2) rfl), (Pa.out.at (i := 3) rfl), (Pb.out.at (i := 0) rfl), (Pb.out.at (i := 1) rfl), (Pb.out.at (i := 2) rfl), (Pb.out.at (i := 3) rfl)⟩) ?_
  clear hK
  refine wpAnyT_one (i := 16) (o := { dst := some 128, op := Op.call { callee := Callee.value (Operand.func 15), args := #[Operand.tmp 123, Operand.tmp 126, Operand.tmp 127], argTypes := #[26, 24, 24] }, type := 4, pos := "outright.go:48", after := #[{ on := 11, ground := Ground.data }, { on := 14, ground := Ground.data }, { on := 15, ground := Ground.data }, { on := 14, ground := Ground.chain }, { on := 10, ground := Ground.guard }], guard := some (10, false) }) (by kernel_rfl) rfl (fun K hK => ?_)
  go_simp
  go_at_call 15
  refine (names8 (k := 2097153) Zsn.out.zc Zsd.out.zc (Zu.out.zi.more (by decide)) (Zz.out.zi.more (by decide)) (by decide) CS.out).mono ?_
  rintro e w51 ⟨rfl, b⟩
  replace Zan := hid (Zan.out.now b)
  replace Zad := hid (Zad.out.now b)
  replace Zbn := hid (Zbn.out.now b)
  replace Zbd := hid (Zbd.out.now b)
  replace Zon := hid (Zon.out.now b)
  replace Zod := hid (Zod.out.now b)
  replace Zsn := hid (Zsn.out.now b)
  replace Zsd := hid (Zsd.out.now b)
  replace Zdn := hid (Zdn.out.now b)
  replace Zdd := hid (Zdd.out.now b)
  replace Zpn := hid (Zpn.out.now b)
  replace Zpd := hid (Zpd.out.now b)
  replace Zx := hid (Zx.out.now b)
  replace Zy := hid (Zy.out.now b)
  replace Zz := hid (Zz.out.now b)
  replace Zu := hid (Zu.out.now b)
  replace Pa := hid (Pa.out.step b)
  replace Pb := hid (Pb.out.step b)
  replace Po := hid (Po.out.step b)
  replace Ps := hid (Ps.out.step b)
  replace Pd := hid (Pd.out.step b)
  replace Pp := hid (Pp.out.step b)
  replace Pq := hid (Pq.out.step b)
  replace Px := hid (Px.out.step b)
  replace Py := hid (Py.out.step b)
  replace Pz := hid (Pz.out.step b)
  replace G := hid (below_step G.out b)
  have lz52 := (show Below _ _ _ from b).size
  clear b 
  refine hK.out _ _ (fun _ => ⟨(Ps.out.at (i := 0) rfl), (Ps.out.at (i := 1) rfl), (Ps.out.at (i := 2) rfl), (Ps.out.at (i := 3) rfl), Px.out.c0, Px.out.c1, Py.out.c0, Py.out.c1, Pz.out.c0, Pz.out.c1, (Pd.out.at (i := 0) rfl), (Pd.out.at (i := 1) rfl), (Pd.out.at (i := 2) rfl), (Pd.out.at (i := 3) rfl), (Pp.out.at (i := 0) rfl), (Pp.out.at (i := 1) rfl), (Pp.out.at (i := 2) rfl), (Pp.out.at (i := 3) rfl), (Pa.out.at (i := 0) rfl), (Pa.out.at (i := 1) rfl), (Pa.out.at (i := 2) rfl), (Pa.out.at (i := 3) rfl), (Pb.out.at (i := 0) rfl), (Pb.out.at (i := 1) rfl), (Pb.out.at (i := 2) rfl), (Pb.out.at (i := 3) rfl)⟩) ?_
  clear hK
  refine wpAnyT_take (i := 17) (oi := { dst := some 129, op := Op.unOp UnOp.not 4 (Operand.tmp 128), type := 4, pos := "outright.go:48", after := #[{ on := 16, ground := Ground.data }, { on := 10, ground := Ground.guard }], guard := some (10, false) }) (v := (.bool false)) rfl (by kernel_rfl) (fun _ _ _ h => h) (Or.inl ⟨by rfl, ?_⟩) ⟨(Ps.out.at (i := 0) rfl), (Ps.out.at (i := 1) rfl), (Ps.out.at (i := 2) rfl), (Ps.out.at (i := 3) rfl), Px.out.c0, Px.out.c1, Py.out.c0, Py.out.c1, Pz.out.c0, Pz.out.c1, (Pd.out.at (i := 0) rfl), (Pd.out.at (i := 1) rfl), (Pd.out.at (i := 2) rfl), (Pd.out.at (i := 3) rfl), (Pp.out.at (i := 0) rfl), (Pp.out.at (i := 1) rfl), (Pp.out.at (i := 2) rfl), (Pp.out.at (i := 3) rfl), (Pa.out.at (i := 0) rfl), (Pa.out.at (i := 1) rfl), (Pa.out.at (i := 2) rfl), (Pa.out.at (i := 3) rfl), (Pb.out.at (i := 0) rfl), (Pb.out.at (i := 1) rfl), (Pb.out.at (i := 2) rfl), (Pb.out.at (i := 3) rfl)⟩ ?_
  · intro w hSw
    (try dsimp only at hSw)
    go_simp
  simp only [Act.put, List.setIfInBounds_toArray, List.set_cons_zero, List.set_cons_succ]
  refine wpAnyT_take (i := 18) (oi := { dst := some 130, op := Op.pick (Operand.tmp 122) (Operand.const (Value.bool true)) (Operand.tmp 129), type := 4, pos := "outright.go:48", after := #[{ on := 10, ground := Ground.data }, { on := 17, ground := Ground.data }], guard := none }) (v := (.bool false)) rfl (by kernel_rfl) (fun _ _ _ h => h) (Or.inl ⟨by rfl, ?_⟩) ⟨(Ps.out.at (i := 0) rfl), (Ps.out.at (i := 1) rfl), (Ps.out.at (i := 2) rfl), (Ps.out.at (i := 3) rfl), Px.out.c0, Px.out.c1, Py.out.c0, Py.out.c1, Pz.out.c0, Pz.out.c1, (Pd.out.at (i := 0) rfl), (Pd.out.at (i := 1) rfl), (Pd.out.at (i := 2) rfl), (Pd.out.at (i := 3) rfl), (Pp.out.at (i := 0) rfl), (Pp.out.at (i := 1) rfl), (Pp.out.at (i := 2) rfl), (Pp.out.at (i := 3) rfl), (Pa.out.at (i := 0) rfl), (Pa.out.at (i := 1) rfl), (Pa.out.at (i := 2) rfl), (Pa.out.at (i := 3) rfl), (Pb.out.at (i := 0) rfl), (Pb.out.at (i := 1) rfl), (Pb.out.at (i := 2) rfl), (Pb.out.at (i := 3) rfl)⟩ ?_
  · intro w hSw
    (try dsimp only at hSw)
    go_simp
  simp only [Act.put, List.setIfInBounds_toArray, List.set_cons_zero, List.set_cons_succ]
  refine wpAnyT_take (i := 19) (oi := { dst := some 131, op := Op.move (Operand.tmp 130), type := 4, pos := "outright.go:48", after := #[{ on := 18, ground := Ground.data }, { on := 16, ground := Ground.chain }], guard := none }) (v := (.bool false)) rfl (by kernel_rfl) (fun _ _ _ h => h) (Or.inl ⟨by rfl, ?_⟩) ⟨(Ps.out.at (i := 0) rfl), (Ps.out.at (i := 1) rfl), (Ps.out.at (i := 2) rfl), (Ps.out.at (i := 3) rfl), Px.out.c0, Px.out.c1, Py.out.c0, Py.out.c1, Pz.out.c0, Pz.out.c1, (Pd.out.at (i := 0) rfl), (Pd.out.at (i := 1) rfl), (Pd.out.at (i := 2) rfl), (Pd.out.at (i := 3) rfl), (Pp.out.at (i := 0) rfl), (Pp.out.at (i := 1) rfl), (Pp.out.at (i := 2) rfl), (Pp.out.at (i := 3) rfl), (Pa.out.at (i := 0) rfl), (Pa.out.at (i := 1) rfl), (Pa.out.at (i := 2) rfl), (Pa.out.at (i := 3) rfl), (Pb.out.at (i := 0) rfl), (Pb.out.at (i := 1) rfl), (Pb.out.at (i := 2) rfl), (Pb.out.at (i := 3) rfl)⟩ ?_
  · intro w hSw
    (try dsimp only at hSw)
    go_simp
  simp only [Act.put, List.setIfInBounds_toArray, List.set_cons_zero, List.set_cons_succ]
  refine wpAnyT_take (i := 20) (oi := { dst := some 132, op := Op.load 26 (Operand.tmp 9), type := 26, pos := "outright.go:48", after := #[{ on := 19, ground := Ground.guard }], guard := some (19, false) }) (v := (.agg #[(.bool ndn), (.slice addn xdn.length qdn), (.bool ndd), (.slice addd xdd.length qdd)])) rfl (by kernel_rfl) (fun _ _ _ h => h) (Or.inl ⟨by rfl, ?_⟩) ⟨(Ps.out.at (i := 0) rfl), (Ps.out.at (i := 1) rfl), (Ps.out.at (i := 2) rfl), (Ps.out.at (i := 3) rfl), Px.out.c0, Px.out.c1, Py.out.c0, Py.out.c1, Pz.out.c0, Pz.out.c1, (Pd.out.at (i := 0) rfl), (Pd.out.at (i := 1) rfl), (Pd.out.at (i := 2) rfl), (Pd.out.at (i := 3) rfl), (Pp.out.at (i := 0) rfl), (Pp.out.at (i := 1) rfl), (Pp.out.at (i := 2) rfl), (Pp.out.at (i := 3) rfl), (Pa.out.at (i := 0) rfl), (Pa.out.at (i := 1) rfl), (Pa.out.at (i := 2) rfl), (Pa.out.at (i := 3) rfl), (Pb.out.at (i := 0) rfl), (Pb.out.at (i := 1) rfl), (Pb.out.at (i := 2) rfl), (Pb.out.at (i := 3) rfl)⟩ ?_
  · intro w hSw
    (try dsimp only at hSw)
    go_simp
  simp only [Act.put, List.setIfInBounds_toArray, List.set_cons_zero, List.set_cons_succ]
  refine wpAnyT_take (i := 21) (oi := { dst := some 133, op := Op.load 24 (Operand.tmp 15), type := 24, pos := "outright.go:48", after := #[{ on := 19, ground := Ground.guard }], guard := some (19, false) }) (v := (.agg #[(.bool nx), (.slice adx xx.length qx)])) rfl (by kernel_rfl) (fun _ _ _ h => h) (Or.inl ⟨by rfl, ?_⟩) ⟨(Ps.out.at (i := 0) rfl), (Ps.out.at (i := 1) rfl), (Ps.out.at (i := 2) rfl), (Ps.out.at (i := 3) rfl), Px.out.c0, Px.out.c1, Py.out.c0, Py.out.c1, Pz.out.c0, Pz.out.c1, (Pd.out.at (i := 0) rfl), (Pd.out.at (i := 1) rfl), (Pd.out.at (i := 2) rfl), (Pd.out.at (i := 3) rfl), (Pp.out.at (i := 0) rfl), (Pp.out.at (i := 1) rfl), (Pp.out.at (i := 2) rfl), (Pp.out.at (i := 3) rfl), (Pa.out.at (i := 0) rfl), (Pa.out.at (i := 1) rfl), (Pa.out.at (i := 2) rfl), (Pa.out.at (i := 3) rfl), (Pb.out.at (i := 0) rfl), (Pb.out.at (i := 1) rfl), (Pb.out.at (i := 2) rfl), (Pb.out.at (i := 3) rfl)⟩ ?_
  · intro w hSw
    (try dsimp only at hSw)
    go_simp
  simp only [Act.put, List.setIfInBounds_toArray, List.set_cons_zero, List.set_cons_succ]
  refine wpAnyT_take (i := 22) (oi := { dst := some 134, op := Op.load 24 (Operand.tmp 16), type := 24, pos := "outright.go:48", after := #[{ on := 19, ground := Ground.guard }], guard := some (19, false) }) (v := (.agg #[(.bool ny), (.slice ady xy.length qy)])) rfl (by kernel_rfl) (fun _ _ _ h => h) (Or.inl ⟨by rfl, ?_⟩) ⟨(Ps.out.at (i := 0) rfl), (Ps.out.at (i := 1) rfl), (Ps.out.at (i := 2) rfl), (Ps.out.at (i := 3) rfl), Px.out.c0, Px.out.c1, Py.out.c0, Py.out.c1, Pz.out.c0, Pz.out.c1, (Pd.out.at (i := 0) rfl), (Pd.out.at (i := 1) rfl), (Pd.out.at (i := 2) rfl), (Pd.out.at (i := 3) rfl), (Pp.out.at (i := 0) rfl), (Pp.out.at (i := 1) rfl), (Pp.out.at (i := 2) rfl), (Pp.out.at (i := 3) rfl), (Pa.out.at (i := 0) rfl), (Pa.out.at (i := 1) rfl), (Pa.out.at (i := 2) rfl), (Pa.out.at (i := 3) rfl), (Pb.out.at (i := 0) rfl), (Pb.out.at (i := 1) rfl), (Pb.out.at (i := 2) rfl), (Pb.out.at (i := 3) rfl)⟩ ?_
  · intro w hSw
    (try dsimp only at hSw)
    go_simp
  simp only [Act.put, List.setIfInBounds_toArray, List.set_cons_zero, List.set_cons_succ]
  refine wpAnyT_take (i := 24) (oi := { dst := some 136, op := Op.load 24 (Operand.tmp 17), type := 24, pos := "outright.go:48", after := #[{ on := 19, ground := Ground.guard }], guard := some (19, false) }) (v := (.agg #[(.bool nz), (.slice adz xz.length qz)])) rfl (by kernel_rfl) (fun _ _ _ h => h) (Or.inl ⟨by rfl, ?_⟩) ⟨(Ps.out.at (i := 0) rfl), (Ps.out.at (i := 1) rfl), (Ps.out.at (i := 2) rfl), (Ps.out.at (i := 3) rfl), Px.out.c0, Px.out.c1, Py.out.c0, Py.out.c1, Pz.out.c0, Pz.out.c1, (Pd.out.at (i := 0) rfl), (Pd.out.at (i := 1) rfl), (Pd.out.at (i := 2) rfl), (Pd.out.at (i := 3) rfl), (Pp.out.at (i := 0) rfl), (Pp.out.at (i := 1) rfl), (Pp.out.at (i := 2) rfl), (Pp.out.at (i := 3) rfl), (Pa.out.at (i := 0) rfl), (Pa.out.at (i := 1) rfl), (Pa.out.at (i := 2) rfl), (Pa.out.at (i := 3) rfl), (Pb.out.at (i := 0) rfl), (Pb.out.at (i := 1) rfl), (Pb.out.at (i := 2) rfl), (Pb.out.at (i := 3) rfl)⟩ ?_
  · intro w hSw
    (try dsimp only at hSw)
    go_simp
  simp only [Act.put, List.setIfInBounds_toArray, List.set_cons_zero, List.set_cons_succ]
  refine wpAnyT_one (i := 23) (o := { dst := some 135, op := Op.call { callee := Callee.value (Operand.func 18), args := #[Operand.tmp 133, Operand.tmp 134], argTypes := #[24, 24] }, type := 24, pos := "outright.go:48", after := #[{ on := 21, ground := Ground.data }, { on := 22, ground := Ground.data }, { on := 19, ground := Ground.chain }, { on := 19, ground := Ground.guard }], guard := some (19, false) }) (by kernel_rfl) rfl (fun K hK => ?_)
  go_simp
  go_at_call 18
  refine (sub_z Zx.out.zi Zy.out.zi (by decide) (by decide)).mono ?_
  rintro e w53 ⟨r0, rfl, m0, b⟩
  obtain ⟨nv, xv, adv, qv, rfl, -, -, -, -, -⟩ := id m0
  replace Zan := hid (Zan.out.now b)
  replace Zad := hid (Zad.out.now b)
  replace Zbn := hid (Zbn.out.now b)
  replace Zbd := hid (Zbd.out.now b)
  replace Zon := hid (Zon.out.now b)
  replace Zod := hid (Zod.out.now b)
  replace Zsn := hid (Zsn.out.now b)
  replace Zsd := hid (Zsd.out.now b)
  replace Zdn := hid (Zdn.out.now b)
  replace Zdd := hid (Zdd.out.now b)
  replace Zpn := hid (Zpn.out.now b)
  replace Zpd := hid (Zpd.out.now b)
  replace Zx := hid (Zx.out.now b)
  replace Zy := hid (Zy.out.now b)
  replace Zz := hid (Zz.out.now b)
  replace Zu := hid (Zu.out.now b)
  replace Pa := hid (Pa.out.step b)
  replace Pb := hid (Pb.out.step b)
  replace Po := hid (Po.out.step b)
  replace Ps := hid (Ps.out.step b)
  replace Pd := hid (Pd.out.step b)
  replace Pp := hid (Pp.out.step b)
  replace Pq := hid (Pq.out.step b)
  replace Px := hid (Px.out.step b)
  replace Py := hid (Py.out.step b)
  replace Pz := hid (Pz.out.step b)
  replace G := hid (below_step G.out b)
  have lz54 := (show Below _ _ _ from b).size
  have Zv := hid m0
  clear b m0
  refine hK.out _ _ (fun _ => ⟨(Ps.out.at (i := 0) rfl), (Ps.out.at (i := 1) rfl), (Ps.out.at (i := 2) rfl), (Ps.out.at (i := 3) rfl), Px.out.c0, Px.out.c1, Py.out.c0, Py.out.c1, Pz.out.c0, Pz.out.c1, (Pd.out.at (i := 0) rfl), (Pd.out.at (i := 1) rfl), (Pd.out.at (i := 2) rfl), (Pd.out.at (i := 3) rfl), (Pp.out.at (i := 0) rfl), (Pp.out.at (i := 1) rfl), (Pp.out.at (i := 2) rfl), (Pp.out.at (i := 3) rfl), (Pa.out.at (i := 0) rfl), (Pa.out.at (i := 1) rfl), (Pa.out.at (i := 2) rfl), (Pa.out.at (i := 3) rfl), (Pb.out.at (i := 0) rfl), (Pb.out.at (i := 1) rfl), (Pb.out.at (i := 2) rfl), (Pb.out.at (i := 3) rfl)⟩) ?_
  clear hK
  refine wpAnyT_one (i := 25) (o := { dst := some 137, op := Op.call { callee := Callee.value (Operand.func 15), args := #[Operand.tmp 132, Operand.tmp 135, Operand.tmp 136], argTypes := #[26, 24, 24] }, type := 4, pos := "outright.go:48", after := #[{ on := 20, ground := Ground.data }, { on := 23, ground := Ground.data }, { on := 24, ground := Ground.data }, { on := 23, ground := Ground.chain }, { on := 19, ground := Ground.guard }], guard := some (19, false) }) (by kernel_rfl) rfl (fun K hK => ?_)
  go_simp
  go_at_call 15
  refine (names8 (k := 2097153) Zdn.out.zc Zdd.out.zc (Zv.out.zi.more (by decide)) (Zz.out.zi.more (by decide)) (by decide) CD.out).mono ?_
  rintro e w55 ⟨rfl, b⟩
  replace Zan := hid (Zan.out.now b)
  replace Zad := hid (Zad.out.now b)
  replace Zbn := hid (Zbn.out.now b)
  replace Zbd := hid (Zbd.out.now b)
  replace Zon := hid (Zon.out.now b)
  replace Zod := hid (Zod.out.now b)
  replace Zsn := hid (Zsn.out.now b)
  replace Zsd := hid (Zsd.out.now b)
  replace Zdn := hid (Zdn.out.now b)
  replace Zdd := hid (Zdd.out.now b)
  replace Zpn := hid (Zpn.out.now b)
  replace Zpd := hid (Zpd.out.now b)
  replace Zx := hid (Zx.out.now b)
  replace Zy := hid (Zy.out.now b)
  replace Zz := hid (Zz.out.now b)
  replace Zu := hid (Zu.out.now b)
  replace Zv := hid (Zv.out.now b)
  replace Pa := hid (Pa.out.step b)
  replace Pb := hid (Pb.out.step b)
  replace Po := hid (Po.out.step b)
  replace Ps := hid (Ps.out.step b)
  replace Pd := hid (Pd.out.step b)
  replace Pp := hid (Pp.out.step b)
  replace Pq := hid (Pq.out.step b)
  replace Px := hid (Px.out.step b)
  replace Py := hid (Py.out.step b)
  replace Pz := hid (Pz.out.step b)
  replace G := hid (below_step G.out b)
  have lz56 := (show Below _ _ _ from b).size
  clear b 
  refine hK.out _ _ (fun _ => ⟨(Ps.out.at (i := 0) rfl), (Ps.out.at (i := 1) rfl), (Ps.out.at (i := 2) rfl), (Ps.out.at (i := 3) rfl), Px.out.c0, Px.out.c1, Py.out.c0, Py.out.c1, Pz.out.c0, Pz.out.c1, (Pd.out.at (i := 0) rfl), (Pd.out.at (i := 1) rfl), (Pd.out.at (i := 2) rfl), (Pd.out.at (i := 3) rfl), (Pp.out.at (i := 0) rfl), (Pp.out.at (i := 1) rfl), (Pp.out.at (i := 2) rfl), (Pp.out.at (i := 3) rfl), (Pa.out.at (i := 0) rfl), (Pa.out.at (i := 1) rfl), (Pa.out.at (i := 2) rfl), (Pa.out.at (i := 3) rfl), (Pb.out.at (i := 0) rfl), (Pb.out.at (i := 1) rfl), (Pb.out.at (i := 2) rfl), (Pb.out.at (i := 3) rfl)⟩) ?_
  clear hK
  refine wpAnyT_take (i := 26) (oi := { dst := some 138, op := Op.unOp UnOp.not 4 (Operand.tmp 137), type := 4, pos := "outright.go:48", after := #[{ on := 25, ground := Ground.data }, { on := 19, ground := Ground.guard }], guard := some (19, false) }) (v := (.bool false)) rfl (by kernel_rfl) (fun _ _ _ h => h) (Or.inl ⟨by rfl, ?_⟩) ⟨(Ps.out.at (i := 0) rfl), (Ps.out.at (i := 1) rfl), (Ps.out.at (i := 2) rfl), (Ps.out.at (i := 3) rfl), Px.out.c0, Px.out.c1, Py.out.c0, Py.out.c1, Pz.out.c0, Pz.out.c1, (Pd.out.at (i := 0) rfl), (Pd.out.at (i := 1) rfl), (Pd.out.at (i := 2) rfl), (Pd.out.at (i := 3) rfl), (Pp.out.at (i := 0) rfl), (Pp.out.at (i := 1) rfl), (Pp.out.at (i := 2) rfl), (Pp.out.at (i := 3) rfl), (Pa.out.at (i := 0) rfl), (Pa.out.at (i := 1) rfl), (Pa.out.at (i := 2) rfl), (Pa.out.at (i := 3) rfl), (Pb.out.at (i := 0) rfl), (Pb.out.at (i := 1) rfl), (Pb.out.at (i := 2) rfl), (Pb.out.at (i := 3) rfl)⟩ ?_
  · intro w hSw
    (try dsimp only at hSw)
    go_simp
  simp only [Act.put, List.setIfInBounds_toArray, List.set_cons_zero, List.set_cons_succ]
  refine wpAnyT_take (i := 27) (oi := { dst := some 139, op := Op.pick (Operand.tmp 131) (Operand.const (Value.bool true)) (Operand.tmp 138), type := 4, pos := "outright.go:48", after := #[{ on := 19, ground := Ground.data }, { on := 26, ground := Ground.data }], guard := none }) (v := (.bool false)) rfl (by kernel_rfl) (fun _ _ _ h => h) (Or.inl ⟨by rfl, ?_⟩) ⟨(Ps.out.at (i := 0) rfl), (Ps.out.at (i := 1) rfl), (Ps.out.at (i := 2) rfl), (Ps.out.at (i := 3) rfl), Px.out.c0, Px.out.c1, Py.out.c0, Py.out.c1, Pz.out.c0, Pz.out.c1, (Pd.out.at (i := 0) rfl), (Pd.out.at (i := 1) rfl), (Pd.out.at (i := 2) rfl), (Pd.out.at (i := 3) rfl), (Pp.out.at (i := 0) rfl), (Pp.out.at (i := 1) rfl), (Pp.out.at (i := 2) rfl), (Pp.out.at (i := 3) rfl), (Pa.out.at (i := 0) rfl), (Pa.out.at (i := 1) rfl), (Pa.out.at (i := 2) rfl), (Pa.out.at (i := 3) rfl), (Pb.out.at (i := 0) rfl), (Pb.out.at (i := 1) rfl), (Pb.out.at (i := 2) rfl), (Pb.out.at (i := 3) rfl)⟩ ?_
  · intro w hSw
    (try dsimp only at hSw)
    go_simp
  simp only [Act.put, List.setIfInBounds_toArray, List.set_cons_zero, List.set_cons_succ]
  refine wpAnyT_take (i := 28) (oi := { dst := some 140, op := Op.move (Operand.tmp 139), type := 4, pos := "outright.go:48", after := #[{ on := 27, ground := Ground.data }, { on := 25, ground := Ground.chain }], guard := none }) (v := (.bool false)) rfl (by kernel_rfl) (fun _ _ _ h => h) (Or.inl ⟨by rfl, ?_⟩) ⟨(Ps.out.at (i := 0) rfl), (Ps.out.at (i := 1) rfl), (Ps.out.at (i := 2) rfl), (Ps.out.at (i := 3) rfl), Px.out.c0, Px.out.c1, Py.out.c0, Py.out.c1, Pz.out.c0, Pz.out.c1, (Pd.out.at (i := 0) rfl), (Pd.out.at (i := 1) rfl), (Pd.out.at (i := 2) rfl), (Pd.out.at (i := 3) rfl), (Pp.out.at (i := 0) rfl), (Pp.out.at (i := 1) rfl), (Pp.out.at (i := 2) rfl), (Pp.out.at (i := 3) rfl), (Pa.out.at (i := 0) rfl), (Pa.out.at (i := 1) rfl), (Pa.out.at (i := 2) rfl), (Pa.out.at (i := 3) rfl), (Pb.out.at (i := 0) rfl), (Pb.out.at (i := 1) rfl), (Pb.out.at (i := 2) rfl), (Pb.out.at (i := 3) rfl)⟩ ?_
  · intro w hSw
    (try dsimp only at hSw)
    go_simp
  simp only [Act.put, List.setIfInBounds_toArray, List.set_cons_zero, List.set_cons_succ]
  refine wpAnyT_take (i := 29) (oi := { dst := some 141, op := Op.load 26 (Operand.tmp 11), type := 26, pos := "outright.go:48", after := #[{ on := 28, ground := Ground.guard }], guard := some (28, false) }) (v := (.agg #[(.bool npn), (.slice adpn xpn.length qpn), (.bool npd), (.slice adpd xpd.length qpd)])) rfl (by kernel_rfl) (fun _ _ _ h => h) (Or.inl ⟨by rfl, ?_⟩) ⟨(Ps.out.at (i := 0) rfl), (Ps.out.at (i := 1) rfl), (Ps.out.at (i := 2) rfl), (Ps.out.at (i := 3) rfl), Px.out.c0, Px.out.c1, Py.out.c0, Py.out.c1, Pz.out.c0, Pz.out.c1, (Pd.out.at (i := 0) rfl), (Pd.out.at (i := 1) rfl), (Pd.out.at (i := 2) rfl), (Pd.out.at (i := 3) rfl), (Pp.out.at (i := 0) rfl), (Pp.out.at (i := 1) rfl), (Pp.out.at (i := 2) rfl), (Pp.out.at (i := 3) rfl), (Pa.out.at (i := 0) rfl), (Pa.out.at (i := 1) rfl), (Pa.out.at (i := 2) rfl), (Pa.out.at (i := 3) rfl), (Pb.out.at (i := 0) rfl), (Pb.out.at (i := 1) rfl), (Pb.out.at (i := 2) rfl), (Pb.out.at (i := 3) rfl)⟩ ?_
  · intro w hSw
    (try dsimp only at hSw)
    go_simp
  simp only [Act.put, List.setIfInBounds_toArray, List.set_cons_zero, List.set_cons_succ]
  refine wpAnyT_take (i := 30) (oi := { dst := some 142, op := Op.fieldAddr 26 (Operand.tmp 2) 0, type := 0, pos := "outright.go:48", after := #[{ on := 28, ground := Ground.guard }], guard := some (28, false) }) (v := (.pointer (some ⟨w.heap.size, 0, none⟩))) rfl (by kernel_rfl) (fun _ _ _ h => h) (Or.inl ⟨by rfl, ?_⟩) ⟨(Ps.out.at (i := 0) rfl), (Ps.out.at (i := 1) rfl), (Ps.out.at (i := 2) rfl), (Ps.out.at (i := 3) rfl), Px.out.c0, Px.out.c1, Py.out.c0, Py.out.c1, Pz.out.c0, Pz.out.c1, (Pd.out.at (i := 0) rfl), (Pd.out.at (i := 1) rfl), (Pd.out.at (i := 2) rfl), (Pd.out.at (i := 3) rfl), (Pp.out.at (i := 0) rfl), (Pp.out.at (i := 1) rfl), (Pp.out.at (i := 2) rfl), (Pp.out.at (i := 3) rfl), (Pa.out.at (i := 0) rfl), (Pa.out.at (i := 1) rfl), (Pa.out.at (i := 2) rfl), (Pa.out.at (i := 3) rfl), (Pb.out.at (i := 0) rfl), (Pb.out.at (i := 1) rfl), (Pb.out.at (i := 2) rfl), (Pb.out.at (i := 3) rfl)⟩ ?_
  · intro w hSw
    (try dsimp only at hSw)
    go_simp
  simp only [Act.put, List.setIfInBounds_toArray, List.set_cons_zero, List.set_cons_succ]
  refine wpAnyT_take (i := 31) (oi := { dst := some 143, op := Op.load 24 (Operand.tmp 142), type := 24, pos := "outright.go:48", after := #[{ on := 30, ground := Ground.data }, { on := 28, ground := Ground.guard }], guard := some (28, false) }) (v := (.agg #[(.bool nan), (.slice adan xan.length can)])) rfl (by kernel_rfl) (fun _ _ _ h => h) (Or.inl ⟨by rfl, ?_⟩) ⟨(Ps.out.at (i := 0) rfl), (Ps.out.at (i := 1) rfl), (Ps.out.at (i := 2) rfl), (Ps.out.at (i := 3) rfl), Px.out.c0, Px.out.c1, Py.out.c0, Py.out.c1, Pz.out.c0, Pz.out.c1, (Pd.out.at (i := 0) rfl), (Pd.out.at (i := 1) rfl), (Pd.out.at (i := 2) rfl), (Pd.out.at (i := 3) rfl), (Pp.out.at (i := 0) rfl), (Pp.out.at (i := 1) rfl), (Pp.out.at (i := 2) rfl), (Pp.out.at (i := 3) rfl), (Pa.out.at (i := 0) rfl), (Pa.out.at (i := 1) rfl), (Pa.out.at (i := 2) rfl), (Pa.out.at (i := 3) rfl), (Pb.out.at (i := 0) rfl), (Pb.out.at (i := 1) rfl), (Pb.out.at (i := 2) rfl), (Pb.out.at (i := 3) rfl)⟩ ?_
  · intro w hSw
    (try dsimp only at hSw)
    go_simp
  simp only [Act.put, List.setIfInBounds_toArray, List.set_cons_zero, List.set_cons_succ]
  refine wpAnyT_take (i := 32) (oi := { dst := some 144, op := Op.fieldAddr 26 (Operand.tmp 3) 0, type := 0, pos := "outright.go:48", after := #[{ on := 28, ground := Ground.guard }], guard := some (28, false) }) (v := (.pointer (some ⟨w.heap.size + 1, 0, none⟩))) rfl (by kernel_rfl) (fun _ _ _ h => h) (Or.inl ⟨by rfl, ?_⟩) ⟨(Ps.out.at (i := 0) rfl), (Ps.out.at (i := 1) rfl), (Ps.out.at (i := 2) rfl), (Ps.out.at (i := 3) rfl), Px.out.c0, Px.out.c1, Py.out.c0, Py.out.c1, Pz.out.c0, Pz.out.c1, (Pd.out.at (i := 0) rfl), (Pd.out.at (i := 1) rfl), (Pd.out.at (i := 2) rfl), (Pd.out.at (i := 3) rfl), (Pp.out.at (i := 0) rfl), (Pp.out.at (i := 1) rfl), (Pp.out.at (i := 2) rfl), (Pp.out.at (i := 3) rfl), (Pa.out.at (i := 0) rfl), (Pa.out.at (i := 1) rfl), (Pa.out.at (i := 2) rfl), (Pa.out.at (i := 3) rfl), (Pb.out.at (i := 0) rfl), (Pb.out.at (i := 1) rfl), (Pb.out.at (i := 2) rfl), (Pb.out.at (i := 3) rfl)⟩ ?_
  · intro w hSw
    (try dsimp only at hSw)
    go_simp
  simp only [Act.put, List.setIfInBounds_toArray, List.set_cons_zero, List.set_cons_succ]
  refine wpAnyT_take (i := 33) (oi := { dst := some 145, op := Op.load 24 (Operand.tmp 144), type := 24, pos := "outright.go:48", after := #[{ on := 32, ground := Ground.data }, { on := 28, ground := Ground.guard }], guard := some (28, false) }) (v := (.agg #[(.bool nbn), (.slice adbn xbn.length cbn)])) rfl (by kernel_rfl) (fun _ _ _ h => h) (Or.inl ⟨by rfl, ?_⟩) ⟨(Ps.out.at (i := 0) rfl), (Ps.out.at (i := 1) rfl), (Ps.out.at (i := 2) rfl), (Ps.out.at (i := 3) rfl), Px.out.c0, Px.out.c1, Py.out.c0, Py.out.c1, Pz.out.c0, Pz.out.c1, (Pd.out.at (i := 0) rfl), (Pd.out.at (i := 1) rfl), (Pd.out.at (i := 2) rfl), (Pd.out.at (i := 3) rfl), (Pp.out.at (i := 0) rfl), (Pp.out.at (i := 1) rfl), (Pp.out.at (i := 2) rfl), (Pp.out.at (i := 3) rfl), (Pa.out.at (i := 0) rfl), (Pa.out.at (i := 1) rfl), (Pa.out.at (i := 2) rfl), (Pa.out.at (i := 3) rfl), (Pb.out.at (i := 0) rfl), (Pb.out.at (i := 1) rfl), (Pb.out.at (i := 2) rfl), (Pb.out.at (i := 3) rfl)⟩ ?_
  · intro w hSw
    (try dsimp only at hSw)
    go_simp
  simp only [Act.put, List.setIfInBounds_toArray, List.set_cons_zero, List.set_cons_succ]
  refine wpAnyT_take (i := 35) (oi := { dst := some 147, op := Op.load 24 (Operand.tmp 17), type := 24, pos := "outright.go:48", after := #[{ on := 28, ground := Ground.guard }], guard := some (28, false) }) (v := (.agg #[(.bool nz), (.slice adz xz.length qz)])) rfl (by kernel_rfl) (fun _ _ _ h => h) (Or.inl ⟨by rfl, ?_⟩) ⟨(Ps.out.at (i := 0) rfl), (Ps.out.at (i := 1) rfl), (Ps.out.at (i := 2) rfl), (Ps.out.at (i := 3) rfl), Px.out.c0, Px.out.c1, Py.out.c0, Py.out.c1, Pz.out.c0, Pz.out.c1, (Pd.out.at (i := 0) rfl), (Pd.out.at (i := 1) rfl), (Pd.out.at (i := 2) rfl), (Pd.out.at (i := 3) rfl), (Pp.out.at (i := 0) rfl), (Pp.out.at (i := 1) rfl), (Pp.out.at (i := 2) rfl), (Pp.out.at (i := 3) rfl), (Pa.out.at (i := 0) rfl), (Pa.out.at (i := 1) rfl), (Pa.out.at (i := 2) rfl), (Pa.out.at (i := 3) rfl), (Pb.out.at (i := 0) rfl), (Pb.out.at (i := 1) rfl), (Pb.out.at (i := 2) rfl), (Pb.out.at (i := 3) rfl)⟩ ?_
  · intro w hSw
    (try dsimp only at hSw)
    go_simp
  simp only [Act.put, List.setIfInBounds_toArray, List.set_cons_zero, List.set_cons_succ]
  refine wpAnyT_one (i := 34) (o := { dst := some 146, op := Op.call { callee := Callee.value (Operand.func 16), args := #[Operand.tmp 143, Operand.tmp 145], argTypes := #[24, 24] }, type := 24, pos := "outright.go:48", after := #[{ on := 31, ground := Ground.data }, { on := 33, ground := Ground.data }, { on := 28, ground := Ground.chain }, { on := 28, ground := Ground.guard }], guard := some (28, false) }) (by kernel_rfl) rfl (fun K hK => ?_)
  go_simp
  go_at_call 16
  refine (mul_z Zan.out Zbn.out (by decide)).mono ?_
  rintro e w57 ⟨r0, rfl, m0, b⟩
  obtain ⟨nh, xh, adh, qh, rfl, -, -, -, -, -⟩ := id m0
  replace Zan := hid (Zan.out.now b)
  replace Zad := hid (Zad.out.now b)
  replace Zbn := hid (Zbn.out.now b)
  replace Zbd := hid (Zbd.out.now b)
  replace Zon := hid (Zon.out.now b)
  replace Zod := hid (Zod.out.now b)
  replace Zsn := hid (Zsn.out.now b)
  replace Zsd := hid (Zsd.out.now b)
  replace Zdn := hid (Zdn.out.now b)
  replace Zdd := hid (Zdd.out.now b)
  replace Zpn := hid (Zpn.out.now b)
  replace Zpd := hid (Zpd.out.now b)
  replace Zx := hid (Zx.out.now b)
  replace Zy := hid (Zy.out.now b)
  replace Zz := hid (Zz.out.now b)
  replace Zu := hid (Zu.out.now b)
  replace Zv := hid (Zv.out.now b)
  replace Pa := hid (Pa.out.step b)
  replace Pb := hid (Pb.out.step b)
  replace Po := hid (Po.out.step b)
  replace Ps := hid (Ps.out.step b)
  replace Pd := hid (Pd.out.step b)
  replace Pp := hid (Pp.out.step b)
  replace Pq := hid (Pq.out.step b)
  replace Px := hid (Px.out.step b)
  replace Py := hid (Py.out.step b)
  replace Pz := hid (Pz.out.step b)
  replace G := hid (below_step G.out b)
  have lz58 := (show Below _ _ _ from b).size
  have Zh := hid m0
  clear b m0
  refine hK.out _ _ (fun _ => ⟨(Ps.out.at (i := 0) rfl), (Ps.out.at (i := 1) rfl), (Ps.out.at (i := 2) rfl), (Ps.out.at (i := 3) rfl), Px.out.c0, Px.out.c1, Py.out.c0, Py.out.c1, Pz.out.c0, Pz.out.c1, (Pd.out.at (i := 0) rfl), (Pd.out.at (i := 1) rfl), (Pd.out.at (i := 2) rfl), (Pd.out.at (i := 3) rfl), (Pp.out.at (i := 0) rfl), (Pp.out.at (i := 1) rfl), (Pp.out.at (i := 2) rfl), (Pp.out.at (i := 3) rfl), (Pa.out.at (i := 0) rfl), (Pa.out.at (i := 1) rfl), (Pa.out.at (i := 2) rfl), (Pa.out.at (i := 3) rfl), (Pb.out.at (i := 0) rfl), (Pb.out.at (i := 1) rfl), (Pb.out.at (i := 2) rfl), (Pb.out.at (i := 3) rfl)⟩) ?_
  clear hK
  refine wpAnyT_one (i := 36) (o := { dst := some 148, op := Op.call { callee := Callee.value (Operand.func 15), args := #[Operand.tmp 141, Operand.tmp 146, Operand.tmp 147], argTypes := #[26, 24, 24] }, type := 4, pos := "outright.go:48", after := #[{ on := 29, ground := Ground.data }, { on := 34, ground := Ground.data }, { on := 35, ground := Ground.data }, { on := 34, ground := Ground.chain }, { on := 28, ground := Ground.guard }], guard := some (28, false) }) (by kernel_rfl) rfl (fun K hK => ?_)
  go_simp
  go_at_call 15
  refine (names8 (k := 2097153) Zpn.out.zc Zpd.out.zc (Zh.out.zi.more (by decide)) (Zz.out.zi.more (by decide)) (by decide) CP.out).mono ?_
  rintro e w59 ⟨rfl, b⟩
  replace Zan := hid (Zan.out.now b)
  replace Zad := hid (Zad.out.now b)
  replace Zbn := hid (Zbn.out.now b)
  replace Zbd := hid (Zbd.out.now b)
  replace Zon := hid (Zon.out.now b)
  replace Zod := hid (Zod.out.now b)
  replace Zsn := hid (Zsn.out.now b)
  replace Zsd := hid (Zsd.out.now b)
  replace Zdn := hid (Zdn.out.now b)
  replace Zdd := hid (Zdd.out.now b)
  replace Zpn := hid (Zpn.out.now b)
  replace Zpd := hid (Zpd.out.now b)
  replace Zx := hid (Zx.out.now b)
  replace Zy := hid (Zy.out.now b)
  replace Zz := hid (Zz.out.now b)
  replace Zu := hid (Zu.out.now b)
  replace Zv := hid (Zv.out.now b)
  replace Zh := hid (Zh.out.now b)
  replace Pa := hid (Pa.out.step b)
  replace Pb := hid (Pb.out.step b)
  replace Po := hid (Po.out.step b)
  replace Ps := hid (Ps.out.step b)
  replace Pd := hid (Pd.out.step b)
  replace Pp := hid (Pp.out.step b)
  replace Pq := hid (Pq.out.step b)
  replace Px := hid (Px.out.step b)
  replace Py := hid (Py.out.step b)
  replace Pz := hid (Pz.out.step b)
  replace G := hid (below_step G.out b)
  have lz60 := (show Below _ _ _ from b).size
  clear b 
  refine hK.out _ _ (fun _ => ⟨(Ps.out.at (i := 0) rfl), (Ps.out.at (i := 1) rfl), (Ps.out.at (i := 2) rfl), (Ps.out.at (i := 3) rfl), Px.out.c0, Px.out.c1, Py.out.c0, Py.out.c1, Pz.out.c0, Pz.out.c1, (Pd.out.at (i := 0) rfl), (Pd.out.at (i := 1) rfl), (Pd.out.at (i := 2) rfl), (Pd.out.at (i := 3) rfl), (Pp.out.at (i := 0) rfl), (Pp.out.at (i := 1) rfl), (Pp.out.at (i := 2) rfl), (Pp.out.at (i := 3) rfl), (Pa.out.at (i := 0) rfl), (Pa.out.at (i := 1) rfl), (Pa.out.at (i := 2) rfl), (Pa.out.at (i := 3) rfl), (Pb.out.at (i := 0) rfl), (Pb.out.at (i := 1) rfl), (Pb.out.at (i := 2) rfl), (Pb.out.at (i := 3) rfl)⟩) ?_
  clear hK
  refine wpAnyT_take (i := 37) (oi := { dst := some 149, op := Op.unOp UnOp.not 4 (Operand.tmp 148), type := 4, pos := "outright.go:48", after := #[{ on := 36, ground := Ground.data }, { on := 28, ground := Ground.guard }], guard := some (28, false) }) (v := (.bool false)) rfl (by kernel_rfl) (fun _ _ _ h => h) (Or.inl ⟨by rfl, ?_⟩) ⟨(Ps.out.at (i := 0) rfl), (Ps.out.at (i := 1) rfl), (Ps.out.at (i := 2) rfl), (Ps.out.at (i := 3) rfl), Px.out.c0, Px.out.c1, Py.out.c0, Py.out.c1, Pz.out.c0, Pz.out.c1, (Pd.out.at (i := 0) rfl), (Pd.out.at (i := 1) rfl), (Pd.out.at (i := 2) rfl), (Pd.out.at (i := 3) rfl), (Pp.out.at (i := 0) rfl), (Pp.out.at (i := 1) rfl), (Pp.out.at (i := 2) rfl), (Pp.out.at (i := 3) rfl), (Pa.out.at (i := 0) rfl), (Pa.out.at (i := 1) rfl), (Pa.out.at (i := 2) rfl), (Pa.out.at (i := 3) rfl), (Pb.out.at (i := 0) rfl), (Pb.out.at (i := 1) rfl), (Pb.out.at (i := 2) rfl), (Pb.out.at (i := 3) rfl)⟩ ?_
  · intro w hSw
    (try dsimp only at hSw)
    go_simp
  simp only [Act.put, List.setIfInBounds_toArray, List.set_cons_zero, List.set_cons_succ]
  refine wpAnyT_one (i := 38) (o := { dst := some 150, op := Op.pick (Operand.tmp 140) (Operand.const (Value.bool true)) (Operand.tmp 149), type := 4, pos := "outright.go:48", after := #[{ on := 28, ground := Ground.data }, { on := 37, ground := Ground.data }], guard := none }) (by kernel_rfl) rfl (fun K hK => ?_)
  go_simp
  refine hK.out _ _ (fun h => absurd h (by decide)) ?_
  clear hK
  try simp only [Act.put]
  refine wpAnyT_done (by kernel_rfl) ?_ _
  have cb0 := (Pb.out.at (i := 0) rfl)
  have cb1 := (Pb.out.at (i := 1) rfl)
  have cb2 := (Pb.out.at (i := 2) rfl)
  have cb3 := (Pb.out.at (i := 3) rfl)
  go_wp2_with fail
  clear cb0 cb1 cb2 cb3
  refine (HS.out _ _ Zbn.out).mono ?_
  rintro e w61 ⟨rfl, b⟩
  replace Zan := hid (Zan.out.now b)
  replace Zad := hid (Zad.out.now b)
  replace Zbn := hid (Zbn.out.now b)
  replace Zbd := hid (Zbd.out.now b)
  replace Zon := hid (Zon.out.now b)
  replace Zod := hid (Zod.out.now b)
  replace Zsn := hid (Zsn.out.now b)
  replace Zsd := hid (Zsd.out.now b)
  replace Zdn := hid (Zdn.out.now b)
  replace Zdd := hid (Zdd.out.now b)
  replace Zpn := hid (Zpn.out.now b)
  replace Zpd := hid (Zpd.out.now b)
  replace Zx := hid (Zx.out.now b)
  replace Zy := hid (Zy.out.now b)
  replace Zz := hid (Zz.out.now b)
  replace Zu := hid (Zu.out.now b)
  replace Zv := hid (Zv.out.now b)
  replace Zh := hid (Zh.out.now b)
  replace Pa := hid (Pa.out.step b)
  replace Pb := hid (Pb.out.step b)
  replace Po := hid (Po.out.step b)
  replace Ps := hid (Ps.out.step b)
  replace Pd := hid (Pd.out.step b)
  replace Pp := hid (Pp.out.step b)
  replace Pq := hid (Pq.out.step b)
  replace Px := hid (Px.out.step b)
  replace Py := hid (Py.out.step b)
  replace Pz := hid (Pz.out.step b)
  replace G := hid (below_step G.out b)
  have lz62 := (show Below _ _ _ from b).size
  clear b 
  go_wp2
  go_ret
  exact ⟨rfl, G.out⟩

set_option maxHeartbeats 6400000 in
set_option maxRecDepth 100000 in
theorem lowest_all {w : World} {a0 a1 a2 a3 b0 b1 b2 b3 : Value} {AN AD BN BD : Int} (han : Zi w (.agg #[a0, a1]) AN 1048576) (had : Zi w (.agg #[a2, a3]) AD 1048576) (hbn : Zi w (.agg #[b0, b1]) BN 1048576) (hbd : Zi w (.agg #[b2, b3]) BD 1048576) (hA : AD ≠ 0) (hB : BD ≠ 0) (hN : BN ≠ 0) :
    Calls Try.prog 3 #[.agg #[a0, a1, a2, a3], .agg #[b0, b1, b2, b3]] w fun e w' => e = .returned (.bool true) ∧ Below w.heap.size w w' := by
  have HDa := hid hA
  clear hA
  have HDb := hid hB
  clear hB
  have HN := hid hN
  clear hN
  obtain ⟨qa, eqa⟩ : ∃ q, q = Rat.divInt AN AD := ⟨_, rfl⟩
  have EQa := hid eqa
  clear eqa
  obtain ⟨qb, eqb⟩ : ∃ q, q = Rat.divInt BN BD := ⟨_, rfl⟩
  have EQb := hid eqb
  clear eqb
  have HS : Hid (∀ w' v, Zi w' v BN 1048576 → _) := fun (w' : World) (v : Value) (h : Zi w' v BN 1048576) => sign_z h
  have q0 : (cmpI BN 0 == 0) = false := by rw [beq_eq_false_iff_ne]; exact fun e => HN.out (cmpI_zero e)
  generalize cmpI BN 0 = C at *
  have zan0 := han
  obtain ⟨nan, xan, adan, can, ev, -, -, -⟩ := han
  simp only [Value.agg.injEq] at ev
  obtain ⟨rfl, rfl⟩ := pair_eq ev
  have zad0 := had
  obtain ⟨nad, xad, adad, cad, ev, -, -, -⟩ := had
  simp only [Value.agg.injEq] at ev
  obtain ⟨rfl, rfl⟩ := pair_eq ev
  have zbn0 := hbn
  obtain ⟨nbn, xbn, adbn, cbn, ev, -, -, -⟩ := hbn
  simp only [Value.agg.injEq] at ev
  obtain ⟨rfl, rfl⟩ := pair_eq ev
  have zbd0 := hbd
  obtain ⟨nbd, xbd, adbd, cbd, ev, -, -, -⟩ := hbd
  simp only [Value.agg.injEq] at ev
  obtain ⟨rfl, rfl⟩ := pair_eq ev
  obtain ⟨W0, hW⟩ : ∃ W0, (w.alloc (.cells #[(.bool nan), (.slice adan xan.length can), (.bool nad), (.slice adad xad.length cad)] 26)).alloc (.cells #[(.bool nbn), (.slice adbn xbn.length cbn), (.bool nbd), (.slice adbd xbd.length cbd)] 26) = W0 := ⟨_, rfl⟩
  obtain ⟨b0, sz0⟩ := alloc2 w (.cells #[(.bool nan), (.slice adan xan.length can), (.bool nad), (.slice adad xad.length cad)] 26) (.cells #[(.bool nbn), (.slice adbn xbn.length cbn), (.bool nbd), (.slice adbd xbd.length cbd)] 26)
  rw [hW] at b0 sz0
  have Pa : Hid (Cel W0 (w.heap.size) 26 [(.bool nan), (.slice adan xan.length can), (.bool nad), (.slice adad xad.length cad)]) := by unfold Hid; rw [← hW]; exact cel_late (cel_at (by simp)) _
  have Pb : Hid (Cel W0 (w.heap.size + 1) 26 [(.bool nbn), (.slice adbn xbn.length cbn), (.bool nbd), (.slice adbd xbd.length cbd)]) := by unfold Hid; rw [← hW]; exact cel_at (by simp)
  have Zan := hid (zan0.now b0)
  clear zan0
  have Zad := hid (zad0.now b0)
  clear zad0
  have Zbn := hid (zbn0.now b0)
  clear zbn0
  have Zbd := hid (zbd0.now b0)
  clear zbd0
  have G := hid b0
  clear b0
  have EW := hid hW
  clear hW
  go_enter Try.func3, Try.ntmps3
  skip
  go_wp2_with fail
  rw [EW.out]
  clear EW
  refine (awake8 _).mono ?_
  rintro e w1 ⟨rfl, b⟩
  replace Zan := hid (Zan.out.now b)
  replace Zad := hid (Zad.out.now b)
  replace Zbn := hid (Zbn.out.now b)
  replace Zbd := hid (Zbd.out.now b)
  replace Pa := hid (Pa.out.step b)
  replace Pb := hid (Pb.out.step b)
  replace G := hid (below_step G.out b)
  have lz2 := (show Below _ _ _ from b).size
  clear b 
  have ca0 := (Pa.out.at (i := 0) rfl)
  have ca1 := (Pa.out.at (i := 1) rfl)
  have ca2 := (Pa.out.at (i := 2) rfl)
  have ca3 := (Pa.out.at (i := 3) rfl)
  go_wp2_with fail
  clear ca0 ca1 ca2 ca3
  refine (fofq (k := 1048576) Zan.out Zad.out (by decide) HDa.out EQa.out).mono ?_
  rintro e w3 ⟨r0, r1, r2, r3, rfl, m0, m1, b⟩
  obtain ⟨non, xon, adon, qon, rfl, rfl⟩ := m0.zi.comp
  obtain ⟨nod, xod, adod, qod, rfl, rfl⟩ := m1.zi.comp
  replace Zan := hid (Zan.out.now b)
  replace Zad := hid (Zad.out.now b)
  replace Zbn := hid (Zbn.out.now b)
  replace Zbd := hid (Zbd.out.now b)
  replace Pa := hid (Pa.out.step b)
  replace Pb := hid (Pb.out.step b)
  replace G := hid (below_step G.out b)
  have lz4 := (show Below _ _ _ from b).size
  have Zon := hid m0
  have Zod := hid m1
  clear b m0 m1
  obtain ⟨V5, hW⟩ : ∃ V5, w3.alloc (.cells #[(.bool non), (.slice adon xon.length qon), (.bool nod), (.slice adod xod.length qod)] 26) = V5 := ⟨_, rfl⟩
  obtain ⟨kW, sz5⟩ := alloc1 w3 (.cells #[(.bool non), (.slice adon xon.length qon), (.bool nod), (.slice adod xod.length qod)] 26)
  rw [hW] at kW sz5
  replace Zan := hid (Zan.out.now kW)
  replace Zad := hid (Zad.out.now kW)
  replace Zbn := hid (Zbn.out.now kW)
  replace Zbd := hid (Zbd.out.now kW)
  replace Zon := hid (Zon.out.now kW)
  replace Zod := hid (Zod.out.now kW)
  replace Pa := hid (Pa.out.step kW)
  replace Pb := hid (Pb.out.step kW)
  replace G := hid (below_step G.out kW)
  have lz6 := (show Below _ _ _ from kW).size
  have Po : Hid (Cel V5 (w3.heap.size) 26 [(.bool non), (.slice adon xon.length qon), (.bool nod), (.slice adod xod.length qod)]) := by unfold Hid; rw [← hW]; exact cel_at (by simp)
  clear kW
  obtain ⟨qs, eqs⟩ : ∃ q, q = qa + qb := ⟨_, rfl⟩
  have EQs := hid eqs
  clear eqs
  have ca0 := (Pa.out.at (i := 0) rfl)
  have ca1 := (Pa.out.at (i := 1) rfl)
  have ca2 := (Pa.out.at (i := 2) rfl)
  have ca3 := (Pa.out.at (i := 3) rfl)
  have cb0 := (Pb.out.at (i := 0) rfl)
  have cb1 := (Pb.out.at (i := 1) rfl)
  have cb2 := (Pb.out.at (i := 2) rfl)
  have cb3 := (Pb.out.at (i := 3) rfl)
  rw [← hW] at ca0 ca1 ca2 ca3 cb0 cb1 cb2 cb3
  have EW := hid hW
  clear hW
  go_wp2_with fail
  rw [EW.out]
  clear EW
  clear ca0 ca1 ca2 ca3 cb0 cb1 cb2 cb3
  refine (faddq (k := 1048576) (l := 2097153) (Zan.out) (Zad.out) (Zbn.out) (Zbd.out) HDa.out HDb.out EQa.out EQb.out EQs.out (by decide) (by decide)).mono ?_
  rintro e w7 ⟨r0, r1, r2, r3, rfl, m0, m1, b⟩
  obtain ⟨nsn, xsn, adsn, qsn, rfl, rfl⟩ := m0.zi.comp
  obtain ⟨nsd, xsd, adsd, qsd, rfl, rfl⟩ := m1.zi.comp
  replace Zan := hid (Zan.out.now b)
  replace Zad := hid (Zad.out.now b)
  replace Zbn := hid (Zbn.out.now b)
  replace Zbd := hid (Zbd.out.now b)
  replace Zon := hid (Zon.out.now b)
  replace Zod := hid (Zod.out.now b)
  replace Pa := hid (Pa.out.step b)
  replace Pb := hid (Pb.out.step b)
  replace Po := hid (Po.out.step b)
  replace G := hid (below_step G.out b)
  have lz8 := (show Below _ _ _ from b).size
  have Zsn := hid m0
  have Zsd := hid m1
  clear b m0 m1
  obtain ⟨V9, hW⟩ : ∃ V9, w7.alloc (.cells #[(.bool nsn), (.slice adsn xsn.length qsn), (.bool nsd), (.slice adsd xsd.length qsd)] 26) = V9 := ⟨_, rfl⟩
  obtain ⟨kW, sz9⟩ := alloc1 w7 (.cells #[(.bool nsn), (.slice adsn xsn.length qsn), (.bool nsd), (.slice adsd xsd.length qsd)] 26)
  rw [hW] at kW sz9
  replace Zan := hid (Zan.out.now kW)
  replace Zad := hid (Zad.out.now kW)
  replace Zbn := hid (Zbn.out.now kW)
  replace Zbd := hid (Zbd.out.now kW)
  replace Zon := hid (Zon.out.now kW)
  replace Zod := hid (Zod.out.now kW)
  replace Zsn := hid (Zsn.out.now kW)
  replace Zsd := hid (Zsd.out.now kW)
  replace Pa := hid (Pa.out.step kW)
  replace Pb := hid (Pb.out.step kW)
  replace Po := hid (Po.out.step kW)
  replace G := hid (below_step G.out kW)
  have lz10 := (show Below _ _ _ from kW).size
  have Ps : Hid (Cel V9 (w7.heap.size) 26 [(.bool nsn), (.slice adsn xsn.length qsn), (.bool nsd), (.slice adsd xsd.length qsd)]) := by unfold Hid; rw [← hW]; exact cel_at (by simp)
  clear kW
  obtain ⟨qd, eqd⟩ : ∃ q, q = qa - qb := ⟨_, rfl⟩
  have EQd := hid eqd
  clear eqd
  have ca0 := (Pa.out.at (i := 0) rfl)
  have ca1 := (Pa.out.at (i := 1) rfl)
  have ca2 := (Pa.out.at (i := 2) rfl)
  have ca3 := (Pa.out.at (i := 3) rfl)
  have cb0 := (Pb.out.at (i := 0) rfl)
  have cb1 := (Pb.out.at (i := 1) rfl)
  have cb2 := (Pb.out.at (i := 2) rfl)
  have cb3 := (Pb.out.at (i := 3) rfl)
  rw [← hW] at ca0 ca1 ca2 ca3 cb0 cb1 cb2 cb3
  have EW := hid hW
  clear hW
  go_wp2_with fail
  rw [EW.out]
  clear EW
  clear ca0 ca1 ca2 ca3 cb0 cb1 cb2 cb3
  refine (fsubq (k := 1048576) (l := 2097153) (Zan.out) (Zad.out) (Zbn.out) (Zbd.out) HDa.out HDb.out EQa.out EQb.out EQd.out (by decide) (by decide)).mono ?_
  rintro e w11 ⟨r0, r1, r2, r3, rfl, m0, m1, b⟩
  obtain ⟨ndn, xdn, addn, qdn, rfl, rfl⟩ := m0.zi.comp
  obtain ⟨ndd, xdd, addd, qdd, rfl, rfl⟩ := m1.zi.comp
  replace Zan := hid (Zan.out.now b)
  replace Zad := hid (Zad.out.now b)
  replace Zbn := hid (Zbn.out.now b)
  replace Zbd := hid (Zbd.out.now b)
  replace Zon := hid (Zon.out.now b)
  replace Zod := hid (Zod.out.now b)
  replace Zsn := hid (Zsn.out.now b)
  replace Zsd := hid (Zsd.out.now b)
  replace Pa := hid (Pa.out.step b)
  replace Pb := hid (Pb.out.step b)
  replace Po := hid (Po.out.step b)
  replace Ps := hid (Ps.out.step b)
  replace G := hid (below_step G.out b)
  have lz12 := (show Below _ _ _ from b).size
  have Zdn := hid m0
  have Zdd := hid m1
  clear b m0 m1
  obtain ⟨V13, hW⟩ : ∃ V13, w11.alloc (.cells #[(.bool ndn), (.slice addn xdn.length qdn), (.bool ndd), (.slice addd xdd.length qdd)] 26) = V13 := ⟨_, rfl⟩
  obtain ⟨kW, sz13⟩ := alloc1 w11 (.cells #[(.bool ndn), (.slice addn xdn.length qdn), (.bool ndd), (.slice addd xdd.length qdd)] 26)
  rw [hW] at kW sz13
  replace Zan := hid (Zan.out.now kW)
  replace Zad := hid (Zad.out.now kW)
  replace Zbn := hid (Zbn.out.now kW)
  replace Zbd := hid (Zbd.out.now kW)
  replace Zon := hid (Zon.out.now kW)
  replace Zod := hid (Zod.out.now kW)
  replace Zsn := hid (Zsn.out.now kW)
  replace Zsd := hid (Zsd.out.now kW)
  replace Zdn := hid (Zdn.out.now kW)
  replace Zdd := hid (Zdd.out.now kW)
  replace Pa := hid (Pa.out.step kW)
  replace Pb := hid (Pb.out.step kW)
  replace Po := hid (Po.out.step kW)
  replace Ps := hid (Ps.out.step kW)
  replace G := hid (below_step G.out kW)
  have lz14 := (show Below _ _ _ from kW).size
  have Pd : Hid (Cel V13 (w11.heap.size) 26 [(.bool ndn), (.slice addn xdn.length qdn), (.bool ndd), (.slice addd xdd.length qdd)]) := by unfold Hid; rw [← hW]; exact cel_at (by simp)
  clear kW
  obtain ⟨qp, eqp⟩ : ∃ q, q = qa * qb := ⟨_, rfl⟩
  have EQp := hid eqp
  clear eqp
  have ca0 := (Pa.out.at (i := 0) rfl)
  have ca1 := (Pa.out.at (i := 1) rfl)
  have ca2 := (Pa.out.at (i := 2) rfl)
  have ca3 := (Pa.out.at (i := 3) rfl)
  have cb0 := (Pb.out.at (i := 0) rfl)
  have cb1 := (Pb.out.at (i := 1) rfl)
  have cb2 := (Pb.out.at (i := 2) rfl)
  have cb3 := (Pb.out.at (i := 3) rfl)
  rw [← hW] at ca0 ca1 ca2 ca3 cb0 cb1 cb2 cb3
  have EW := hid hW
  clear hW
  go_wp2_with fail
  rw [EW.out]
  clear EW
  clear ca0 ca1 ca2 ca3 cb0 cb1 cb2 cb3
  refine (fmulq (k := 1048576) (l := 2097153) (Zan.out) (Zad.out) (Zbn.out) (Zbd.out) HDa.out HDb.out EQa.out EQb.out EQp.out (by decide) (by decide)).mono ?_
  rintro e w15 ⟨r0, r1, r2, r3, rfl, m0, m1, b⟩
  obtain ⟨npn, xpn, adpn, qpn, rfl, rfl⟩ := m0.zi.comp
  obtain ⟨npd, xpd, adpd, qpd, rfl, rfl⟩ := m1.zi.comp
  replace Zan := hid (Zan.out.now b)
  replace Zad := hid (Zad.out.now b)
  replace Zbn := hid (Zbn.out.now b)
  replace Zbd := hid (Zbd.out.now b)
  replace Zon := hid (Zon.out.now b)
  replace Zod := hid (Zod.out.now b)
  replace Zsn := hid (Zsn.out.now b)
  replace Zsd := hid (Zsd.out.now b)
  replace Zdn := hid (Zdn.out.now b)
  replace Zdd := hid (Zdd.out.now b)
  replace Pa := hid (Pa.out.step b)
  replace Pb := hid (Pb.out.step b)
  replace Po := hid (Po.out.step b)
  replace Ps := hid (Ps.out.step b)
  replace Pd := hid (Pd.out.step b)
  replace G := hid (below_step G.out b)
  have lz16 := (show Below _ _ _ from b).size
  have Zpn := hid m0
  have Zpd := hid m1
  clear b m0 m1
  obtain ⟨V17, hW⟩ : ∃ V17, w15.alloc (.cells #[(.bool npn), (.slice adpn xpn.length qpn), (.bool npd), (.slice adpd xpd.length qpd)] 26) = V17 := ⟨_, rfl⟩
  obtain ⟨kW, sz17⟩ := alloc1 w15 (.cells #[(.bool npn), (.slice adpn xpn.length qpn), (.bool npd), (.slice adpd xpd.length qpd)] 26)
  rw [hW] at kW sz17
  replace Zan := hid (Zan.out.now kW)
  replace Zad := hid (Zad.out.now kW)
  replace Zbn := hid (Zbn.out.now kW)
  replace Zbd := hid (Zbd.out.now kW)
  replace Zon := hid (Zon.out.now kW)
  replace Zod := hid (Zod.out.now kW)
  replace Zsn := hid (Zsn.out.now kW)
  replace Zsd := hid (Zsd.out.now kW)
  replace Zdn := hid (Zdn.out.now kW)
  replace Zdd := hid (Zdd.out.now kW)
  replace Zpn := hid (Zpn.out.now kW)
  replace Zpd := hid (Zpd.out.now kW)
  replace Pa := hid (Pa.out.step kW)
  replace Pb := hid (Pb.out.step kW)
  replace Po := hid (Po.out.step kW)
  replace Ps := hid (Ps.out.step kW)
  replace Pd := hid (Pd.out.step kW)
  replace G := hid (below_step G.out kW)
  have lz18 := (show Below _ _ _ from kW).size
  have Pp : Hid (Cel V17 (w15.heap.size) 26 [(.bool npn), (.slice adpn xpn.length qpn), (.bool npd), (.slice adpd xpd.length qpd)]) := by unfold Hid; rw [← hW]; exact cel_at (by simp)
  clear kW
  obtain ⟨qq, eqq⟩ : ∃ q, q = qa / qb := ⟨_, rfl⟩
  have EQq := hid eqq
  clear eqq
  have ca0 := (Pa.out.at (i := 0) rfl)
  have ca1 := (Pa.out.at (i := 1) rfl)
  have ca2 := (Pa.out.at (i := 2) rfl)
  have ca3 := (Pa.out.at (i := 3) rfl)
  have cb0 := (Pb.out.at (i := 0) rfl)
  have cb1 := (Pb.out.at (i := 1) rfl)
  have cb2 := (Pb.out.at (i := 2) rfl)
  have cb3 := (Pb.out.at (i := 3) rfl)
  rw [← hW] at ca0 ca1 ca2 ca3 cb0 cb1 cb2 cb3
  have EW := hid hW
  clear hW
  go_wp2_with fail
  rw [EW.out]
  clear EW
  clear ca0 ca1 ca2 ca3 cb0 cb1 cb2 cb3
  refine (fdivq (k := 1048576) (l := 2097153) (Zan.out) (Zad.out) (Zbn.out) (Zbd.out) HDa.out HDb.out HN.out EQa.out EQb.out EQq.out (by decide) (by decide)).mono ?_
  rintro e w19 ⟨r0, r1, r2, r3, rfl, m0, m1, b⟩
  obtain ⟨nqn, xqn, adqn, qqn, rfl, rfl⟩ := m0.zi.comp
  obtain ⟨nqd, xqd, adqd, qqd, rfl, rfl⟩ := m1.zi.comp
  replace Zan := hid (Zan.out.now b)
  replace Zad := hid (Zad.out.now b)
  replace Zbn := hid (Zbn.out.now b)
  replace Zbd := hid (Zbd.out.now b)
  replace Zon := hid (Zon.out.now b)
  replace Zod := hid (Zod.out.now b)
  replace Zsn := hid (Zsn.out.now b)
  replace Zsd := hid (Zsd.out.now b)
  replace Zdn := hid (Zdn.out.now b)
  replace Zdd := hid (Zdd.out.now b)
  replace Zpn := hid (Zpn.out.now b)
  replace Zpd := hid (Zpd.out.now b)
  replace Pa := hid (Pa.out.step b)
  replace Pb := hid (Pb.out.step b)
  replace Po := hid (Po.out.step b)
  replace Ps := hid (Ps.out.step b)
  replace Pd := hid (Pd.out.step b)
  replace Pp := hid (Pp.out.step b)
  replace G := hid (below_step G.out b)
  have lz20 := (show Below _ _ _ from b).size
  have Zqn := hid m0
  have Zqd := hid m1
  clear b m0 m1
  obtain ⟨V21, hW⟩ : ∃ V21, w19.alloc (.cells #[(.bool nqn), (.slice adqn xqn.length qqn), (.bool nqd), (.slice adqd xqd.length qqd)] 26) = V21 := ⟨_, rfl⟩
  obtain ⟨kW, sz21⟩ := alloc1 w19 (.cells #[(.bool nqn), (.slice adqn xqn.length qqn), (.bool nqd), (.slice adqd xqd.length qqd)] 26)
  rw [hW] at kW sz21
  replace Zan := hid (Zan.out.now kW)
  replace Zad := hid (Zad.out.now kW)
  replace Zbn := hid (Zbn.out.now kW)
  replace Zbd := hid (Zbd.out.now kW)
  replace Zon := hid (Zon.out.now kW)
  replace Zod := hid (Zod.out.now kW)
  replace Zsn := hid (Zsn.out.now kW)
  replace Zsd := hid (Zsd.out.now kW)
  replace Zdn := hid (Zdn.out.now kW)
  replace Zdd := hid (Zdd.out.now kW)
  replace Zpn := hid (Zpn.out.now kW)
  replace Zpd := hid (Zpd.out.now kW)
  replace Zqn := hid (Zqn.out.now kW)
  replace Zqd := hid (Zqd.out.now kW)
  replace Pa := hid (Pa.out.step kW)
  replace Pb := hid (Pb.out.step kW)
  replace Po := hid (Po.out.step kW)
  replace Ps := hid (Ps.out.step kW)
  replace Pd := hid (Pd.out.step kW)
  replace Pp := hid (Pp.out.step kW)
  replace G := hid (below_step G.out kW)
  have lz22 := (show Below _ _ _ from kW).size
  have Pq : Hid (Cel V21 (w19.heap.size) 26 [(.bool nqn), (.slice adqn xqn.length qqn), (.bool nqd), (.slice adqd xqd.length qqd)]) := by unfold Hid; rw [← hW]; exact cel_at (by simp)
  clear kW
  have ca0 := (Pa.out.at (i := 0) rfl)
  have ca1 := (Pa.out.at (i := 1) rfl)
  have ca2 := (Pa.out.at (i := 2) rfl)
  have ca3 := (Pa.out.at (i := 3) rfl)
  rw [← hW] at ca0 ca1 ca2 ca3
  have EW := hid hW
  clear hW
  go_wp2_with fail
  rw [EW.out]
  clear EW
  clear ca0 ca1 ca2 ca3
  refine (is8_yes Zan.out Zad.out HDa.out).mono ?_
  rintro e w23 ⟨rfl, b⟩
  replace Zan := hid (Zan.out.now b)
  replace Zad := hid (Zad.out.now b)
  replace Zbn := hid (Zbn.out.now b)
  replace Zbd := hid (Zbd.out.now b)
  replace Zon := hid (Zon.out.now b)
  replace Zod := hid (Zod.out.now b)
  replace Zsn := hid (Zsn.out.now b)
  replace Zsd := hid (Zsd.out.now b)
  replace Zdn := hid (Zdn.out.now b)
  replace Zdd := hid (Zdd.out.now b)
  replace Zpn := hid (Zpn.out.now b)
  replace Zpd := hid (Zpd.out.now b)
  replace Zqn := hid (Zqn.out.now b)
  replace Zqd := hid (Zqd.out.now b)
  replace Pa := hid (Pa.out.step b)
  replace Pb := hid (Pb.out.step b)
  replace Po := hid (Po.out.step b)
  replace Ps := hid (Ps.out.step b)
  replace Pd := hid (Pd.out.step b)
  replace Pp := hid (Pp.out.step b)
  replace Pq := hid (Pq.out.step b)
  replace G := hid (below_step G.out b)
  have lz24 := (show Below _ _ _ from b).size
  clear b 
  have ca0 := (Pa.out.at (i := 0) rfl)
  have ca1 := (Pa.out.at (i := 1) rfl)
  have ca2 := (Pa.out.at (i := 2) rfl)
  have ca3 := (Pa.out.at (i := 3) rfl)
  go_wp2_with fail
  clear ca0 ca1 ca2 ca3
  refine (is8_yes Zan.out Zad.out HDa.out).mono ?_
  rintro e w25 ⟨rfl, b⟩
  replace Zan := hid (Zan.out.now b)
  replace Zad := hid (Zad.out.now b)
  replace Zbn := hid (Zbn.out.now b)
  replace Zbd := hid (Zbd.out.now b)
  replace Zon := hid (Zon.out.now b)
  replace Zod := hid (Zod.out.now b)
  replace Zsn := hid (Zsn.out.now b)
  replace Zsd := hid (Zsd.out.now b)
  replace Zdn := hid (Zdn.out.now b)
  replace Zdd := hid (Zdd.out.now b)
  replace Zpn := hid (Zpn.out.now b)
  replace Zpd := hid (Zpd.out.now b)
  replace Zqn := hid (Zqn.out.now b)
  replace Zqd := hid (Zqd.out.now b)
  replace Pa := hid (Pa.out.step b)
  replace Pb := hid (Pb.out.step b)
  replace Po := hid (Po.out.step b)
  replace Ps := hid (Ps.out.step b)
  replace Pd := hid (Pd.out.step b)
  replace Pp := hid (Pp.out.step b)
  replace Pq := hid (Pq.out.step b)
  replace G := hid (below_step G.out b)
  have lz26 := (show Below _ _ _ from b).size
  clear b 
  have ca0 := (Pa.out.at (i := 0) rfl)
  have ca1 := (Pa.out.at (i := 1) rfl)
  have ca2 := (Pa.out.at (i := 2) rfl)
  have ca3 := (Pa.out.at (i := 3) rfl)
  go_wp2_with fail
  clear ca0 ca1 ca2 ca3
  refine (is8_yes Zan.out Zad.out HDa.out).mono ?_
  rintro e w27 ⟨rfl, b⟩
  replace Zan := hid (Zan.out.now b)
  replace Zad := hid (Zad.out.now b)
  replace Zbn := hid (Zbn.out.now b)
  replace Zbd := hid (Zbd.out.now b)
  replace Zon := hid (Zon.out.now b)
  replace Zod := hid (Zod.out.now b)
  replace Zsn := hid (Zsn.out.now b)
  replace Zsd := hid (Zsd.out.now b)
  replace Zdn := hid (Zdn.out.now b)
  replace Zdd := hid (Zdd.out.now b)
  replace Zpn := hid (Zpn.out.now b)
  replace Zpd := hid (Zpd.out.now b)
  replace Zqn := hid (Zqn.out.now b)
  replace Zqd := hid (Zqd.out.now b)
  replace Pa := hid (Pa.out.step b)
  replace Pb := hid (Pb.out.step b)
  replace Po := hid (Po.out.step b)
  replace Ps := hid (Ps.out.step b)
  replace Pd := hid (Pd.out.step b)
  replace Pp := hid (Pp.out.step b)
  replace Pq := hid (Pq.out.step b)
  replace G := hid (below_step G.out b)
  have lz28 := (show Below _ _ _ from b).size
  clear b 
  have co0 := (Po.out.at (i := 0) rfl)
  have co1 := (Po.out.at (i := 1) rfl)
  have co2 := (Po.out.at (i := 2) rfl)
  have co3 := (Po.out.at (i := 3) rfl)
  have ca0 := (Pa.out.at (i := 0) rfl)
  have ca1 := (Pa.out.at (i := 1) rfl)
  have ca2 := (Pa.out.at (i := 2) rfl)
  have ca3 := (Pa.out.at (i := 3) rfl)
  go_wp2_with fail
  clear co0 co1 co2 co3 ca0 ca1 ca2 ca3
  refine (names8 Zon.out.zc Zod.out.zc Zan.out Zad.out (by decide) (cross_q HDa.out EQa.out)).mono ?_
  rintro e w29 ⟨rfl, b⟩
  replace Zan := hid (Zan.out.now b)
  replace Zad := hid (Zad.out.now b)
  replace Zbn := hid (Zbn.out.now b)
  replace Zbd := hid (Zbd.out.now b)
  replace Zon := hid (Zon.out.now b)
  replace Zod := hid (Zod.out.now b)
  replace Zsn := hid (Zsn.out.now b)
  replace Zsd := hid (Zsd.out.now b)
  replace Zdn := hid (Zdn.out.now b)
  replace Zdd := hid (Zdd.out.now b)
  replace Zpn := hid (Zpn.out.now b)
  replace Zpd := hid (Zpd.out.now b)
  replace Zqn := hid (Zqn.out.now b)
  replace Zqd := hid (Zqd.out.now b)
  replace Pa := hid (Pa.out.step b)
  replace Pb := hid (Pb.out.step b)
  replace Po := hid (Po.out.step b)
  replace Ps := hid (Ps.out.step b)
  replace Pd := hid (Pd.out.step b)
  replace Pp := hid (Pp.out.step b)
  replace Pq := hid (Pq.out.step b)
  replace G := hid (below_step G.out b)
  have lz30 := (show Below _ _ _ from b).size
  clear b 
  have ca0 := (Pa.out.at (i := 0) rfl)
  have ca1 := (Pa.out.at (i := 1) rfl)
  have ca2 := (Pa.out.at (i := 2) rfl)
  have ca3 := (Pa.out.at (i := 3) rfl)
  go_wp2_with fail
  clear ca0 ca1 ca2 ca3
  refine (is8_yes Zan.out Zad.out HDa.out).mono ?_
  rintro e w31 ⟨rfl, b⟩
  replace Zan := hid (Zan.out.now b)
  replace Zad := hid (Zad.out.now b)
  replace Zbn := hid (Zbn.out.now b)
  replace Zbd := hid (Zbd.out.now b)
  replace Zon := hid (Zon.out.now b)
  replace Zod := hid (Zod.out.now b)
  replace Zsn := hid (Zsn.out.now b)
  replace Zsd := hid (Zsd.out.now b)
  replace Zdn := hid (Zdn.out.now b)
  replace Zdd := hid (Zdd.out.now b)
  replace Zpn := hid (Zpn.out.now b)
  replace Zpd := hid (Zpd.out.now b)
  replace Zqn := hid (Zqn.out.now b)
  replace Zqd := hid (Zqd.out.now b)
  replace Pa := hid (Pa.out.step b)
  replace Pb := hid (Pb.out.step b)
  replace Po := hid (Po.out.step b)
  replace Ps := hid (Ps.out.step b)
  replace Pd := hid (Pd.out.step b)
  replace Pp := hid (Pp.out.step b)
  replace Pq := hid (Pq.out.step b)
  replace G := hid (below_step G.out b)
  have lz32 := (show Below _ _ _ from b).size
  clear b 
  have cb0 := (Pb.out.at (i := 0) rfl)
  have cb1 := (Pb.out.at (i := 1) rfl)
  have cb2 := (Pb.out.at (i := 2) rfl)
  have cb3 := (Pb.out.at (i := 3) rfl)
  go_wp2_with fail
  clear cb0 cb1 cb2 cb3
  refine (is8_yes Zbn.out Zbd.out HDb.out).mono ?_
  rintro e w33 ⟨rfl, b⟩
  replace Zan := hid (Zan.out.now b)
  replace Zad := hid (Zad.out.now b)
  replace Zbn := hid (Zbn.out.now b)
  replace Zbd := hid (Zbd.out.now b)
  replace Zon := hid (Zon.out.now b)
  replace Zod := hid (Zod.out.now b)
  replace Zsn := hid (Zsn.out.now b)
  replace Zsd := hid (Zsd.out.now b)
  replace Zdn := hid (Zdn.out.now b)
  replace Zdd := hid (Zdd.out.now b)
  replace Zpn := hid (Zpn.out.now b)
  replace Zpd := hid (Zpd.out.now b)
  replace Zqn := hid (Zqn.out.now b)
  replace Zqd := hid (Zqd.out.now b)
  replace Pa := hid (Pa.out.step b)
  replace Pb := hid (Pb.out.step b)
  replace Po := hid (Po.out.step b)
  replace Ps := hid (Ps.out.step b)
  replace Pd := hid (Pd.out.step b)
  replace Pp := hid (Pp.out.step b)
  replace Pq := hid (Pq.out.step b)
  replace G := hid (below_step G.out b)
  have lz34 := (show Below _ _ _ from b).size
  clear b 
  have ca0 := (Pa.out.at (i := 0) rfl)
  have ca1 := (Pa.out.at (i := 1) rfl)
  have ca2 := (Pa.out.at (i := 2) rfl)
  have ca3 := (Pa.out.at (i := 3) rfl)
  have cb0 := (Pb.out.at (i := 0) rfl)
  have cb1 := (Pb.out.at (i := 1) rfl)
  have cb2 := (Pb.out.at (i := 2) rfl)
  have cb3 := (Pb.out.at (i := 3) rfl)
  go_wp2_with fail
  clear ca0 ca1 ca2 ca3 cb0 cb1 cb2 cb3
  refine (mul_z Zan.out Zbd.out (by decide)).mono ?_
  rintro e w35 ⟨r0, rfl, m0, b⟩
  obtain ⟨nx, xx, adx, qx, rfl, -, -, -, -, -⟩ := id m0
  replace Zan := hid (Zan.out.now b)
  replace Zad := hid (Zad.out.now b)
  replace Zbn := hid (Zbn.out.now b)
  replace Zbd := hid (Zbd.out.now b)
  replace Zon := hid (Zon.out.now b)
  replace Zod := hid (Zod.out.now b)
  replace Zsn := hid (Zsn.out.now b)
  replace Zsd := hid (Zsd.out.now b)
  replace Zdn := hid (Zdn.out.now b)
  replace Zdd := hid (Zdd.out.now b)
  replace Zpn := hid (Zpn.out.now b)
  replace Zpd := hid (Zpd.out.now b)
  replace Zqn := hid (Zqn.out.now b)
  replace Zqd := hid (Zqd.out.now b)
  replace Pa := hid (Pa.out.step b)
  replace Pb := hid (Pb.out.step b)
  replace Po := hid (Po.out.step b)
  replace Ps := hid (Ps.out.step b)
  replace Pd := hid (Pd.out.step b)
  replace Pp := hid (Pp.out.step b)
  replace Pq := hid (Pq.out.step b)
  replace G := hid (below_step G.out b)
  have lz36 := (show Below _ _ _ from b).size
  have Zx := hid m0
  clear b m0
  obtain ⟨V37, hW⟩ : ∃ V37, w35.alloc (duo (.bool nx) (.slice adx xx.length qx)) = V37 := ⟨_, rfl⟩
  obtain ⟨kW, sz37⟩ := alloc1 w35 (duo (.bool nx) (.slice adx xx.length qx))
  rw [hW] at kW sz37
  replace Zan := hid (Zan.out.now kW)
  replace Zad := hid (Zad.out.now kW)
  replace Zbn := hid (Zbn.out.now kW)
  replace Zbd := hid (Zbd.out.now kW)
  replace Zon := hid (Zon.out.now kW)
  replace Zod := hid (Zod.out.now kW)
  replace Zsn := hid (Zsn.out.now kW)
  replace Zsd := hid (Zsd.out.now kW)
  replace Zdn := hid (Zdn.out.now kW)
  replace Zdd := hid (Zdd.out.now kW)
  replace Zpn := hid (Zpn.out.now kW)
  replace Zpd := hid (Zpd.out.now kW)
  replace Zqn := hid (Zqn.out.now kW)
  replace Zqd := hid (Zqd.out.now kW)
  replace Zx := hid (Zx.out.now kW)
  replace Pa := hid (Pa.out.step kW)
  replace Pb := hid (Pb.out.step kW)
  replace Po := hid (Po.out.step kW)
  replace Ps := hid (Ps.out.step kW)
  replace Pd := hid (Pd.out.step kW)
  replace Pp := hid (Pp.out.step kW)
  replace Pq := hid (Pq.out.step kW)
  replace G := hid (below_step G.out kW)
  have lz38 := (show Below _ _ _ from kW).size
  have Px : Hid (Duo V37 (w35.heap.size) (.bool nx) (.slice adx xx.length qx)) := by unfold Hid; rw [← hW]; exact duo_at (by simp)
  clear kW
  have ca0 := (Pa.out.at (i := 0) rfl)
  have ca1 := (Pa.out.at (i := 1) rfl)
  have ca2 := (Pa.out.at (i := 2) rfl)
  have ca3 := (Pa.out.at (i := 3) rfl)
  have cb0 := (Pb.out.at (i := 0) rfl)
  have cb1 := (Pb.out.at (i := 1) rfl)
  have cb2 := (Pb.out.at (i := 2) rfl)
  have cb3 := (Pb.out.at (i := 3) rfl)
  rw [← hW] at ca0 ca1 ca2 ca3 cb0 cb1 cb2 cb3
  have EW := hid hW
  clear hW
  go_wp2_with fail
  rw [EW.out]
  clear EW
  clear ca0 ca1 ca2 ca3 cb0 cb1 cb2 cb3
  refine (mul_z Zbn.out Zad.out (by decide)).mono ?_
  rintro e w39 ⟨r0, rfl, m0, b⟩
  obtain ⟨ny, xy, ady, qy, rfl, -, -, -, -, -⟩ := id m0
  replace Zan := hid (Zan.out.now b)
  replace Zad := hid (Zad.out.now b)
  replace Zbn := hid (Zbn.out.now b)
  replace Zbd := hid (Zbd.out.now b)
  replace Zon := hid (Zon.out.now b)
  replace Zod := hid (Zod.out.now b)
  replace Zsn := hid (Zsn.out.now b)
  replace Zsd := hid (Zsd.out.now b)
  replace Zdn := hid (Zdn.out.now b)
  replace Zdd := hid (Zdd.out.now b)
  replace Zpn := hid (Zpn.out.now b)
  replace Zpd := hid (Zpd.out.now b)
  replace Zqn := hid (Zqn.out.now b)
  replace Zqd := hid (Zqd.out.now b)
  replace Zx := hid (Zx.out.now b)
  replace Pa := hid (Pa.out.step b)
  replace Pb := hid (Pb.out.step b)
  replace Po := hid (Po.out.step b)
  replace Ps := hid (Ps.out.step b)
  replace Pd := hid (Pd.out.step b)
  replace Pp := hid (Pp.out.step b)
  replace Pq := hid (Pq.out.step b)
  replace Px := hid (Px.out.step b)
  replace G := hid (below_step G.out b)
  have lz40 := (show Below _ _ _ from b).size
  have Zy := hid m0
  clear b m0
  obtain ⟨V41, hW⟩ : ∃ V41, w39.alloc (duo (.bool ny) (.slice ady xy.length qy)) = V41 := ⟨_, rfl⟩
  obtain ⟨kW, sz41⟩ := alloc1 w39 (duo (.bool ny) (.slice ady xy.length qy))
  rw [hW] at kW sz41
  replace Zan := hid (Zan.out.now kW)
  replace Zad := hid (Zad.out.now kW)
  replace Zbn := hid (Zbn.out.now kW)
  replace Zbd := hid (Zbd.out.now kW)
  replace Zon := hid (Zon.out.now kW)
  replace Zod := hid (Zod.out.now kW)
  replace Zsn := hid (Zsn.out.now kW)
  replace Zsd := hid (Zsd.out.now kW)
  replace Zdn := hid (Zdn.out.now kW)
  replace Zdd := hid (Zdd.out.now kW)
  replace Zpn := hid (Zpn.out.now kW)
  replace Zpd := hid (Zpd.out.now kW)
  replace Zqn := hid (Zqn.out.now kW)
  replace Zqd := hid (Zqd.out.now kW)
  replace Zx := hid (Zx.out.now kW)
  replace Zy := hid (Zy.out.now kW)
  replace Pa := hid (Pa.out.step kW)
  replace Pb := hid (Pb.out.step kW)
  replace Po := hid (Po.out.step kW)
  replace Ps := hid (Ps.out.step kW)
  replace Pd := hid (Pd.out.step kW)
  replace Pp := hid (Pp.out.step kW)
  replace Pq := hid (Pq.out.step kW)
  replace Px := hid (Px.out.step kW)
  replace G := hid (below_step G.out kW)
  have lz42 := (show Below _ _ _ from kW).size
  have Py : Hid (Duo V41 (w39.heap.size) (.bool ny) (.slice ady xy.length qy)) := by unfold Hid; rw [← hW]; exact duo_at (by simp)
  clear kW
  have ca0 := (Pa.out.at (i := 0) rfl)
  have ca1 := (Pa.out.at (i := 1) rfl)
  have ca2 := (Pa.out.at (i := 2) rfl)
  have ca3 := (Pa.out.at (i := 3) rfl)
  have cb0 := (Pb.out.at (i := 0) rfl)
  have cb1 := (Pb.out.at (i := 1) rfl)
  have cb2 := (Pb.out.at (i := 2) rfl)
  have cb3 := (Pb.out.at (i := 3) rfl)
  rw [← hW] at ca0 ca1 ca2 ca3 cb0 cb1 cb2 cb3
  have EW := hid hW
  clear hW
  go_wp2_with fail
  rw [EW.out]
  clear EW
  clear ca0 ca1 ca2 ca3 cb0 cb1 cb2 cb3
  refine (mul_z Zad.out Zbd.out (by decide)).mono ?_
  rintro e w43 ⟨r0, rfl, m0, b⟩
  obtain ⟨nz, xz, adz, qz, rfl, -, -, -, -, -⟩ := id m0
  replace Zan := hid (Zan.out.now b)
  replace Zad := hid (Zad.out.now b)
  replace Zbn := hid (Zbn.out.now b)
  replace Zbd := hid (Zbd.out.now b)
  replace Zon := hid (Zon.out.now b)
  replace Zod := hid (Zod.out.now b)
  replace Zsn := hid (Zsn.out.now b)
  replace Zsd := hid (Zsd.out.now b)
  replace Zdn := hid (Zdn.out.now b)
  replace Zdd := hid (Zdd.out.now b)
  replace Zpn := hid (Zpn.out.now b)
  replace Zpd := hid (Zpd.out.now b)
  replace Zqn := hid (Zqn.out.now b)
  replace Zqd := hid (Zqd.out.now b)
  replace Zx := hid (Zx.out.now b)
  replace Zy := hid (Zy.out.now b)
  replace Pa := hid (Pa.out.step b)
  replace Pb := hid (Pb.out.step b)
  replace Po := hid (Po.out.step b)
  replace Ps := hid (Ps.out.step b)
  replace Pd := hid (Pd.out.step b)
  replace Pp := hid (Pp.out.step b)
  replace Pq := hid (Pq.out.step b)
  replace Px := hid (Px.out.step b)
  replace Py := hid (Py.out.step b)
  replace G := hid (below_step G.out b)
  have lz44 := (show Below _ _ _ from b).size
  have Zz := hid m0
  clear b m0
  obtain ⟨V45, hW⟩ : ∃ V45, w43.alloc (duo (.bool nz) (.slice adz xz.length qz)) = V45 := ⟨_, rfl⟩
  obtain ⟨kW, sz45⟩ := alloc1 w43 (duo (.bool nz) (.slice adz xz.length qz))
  rw [hW] at kW sz45
  replace Zan := hid (Zan.out.now kW)
  replace Zad := hid (Zad.out.now kW)
  replace Zbn := hid (Zbn.out.now kW)
  replace Zbd := hid (Zbd.out.now kW)
  replace Zon := hid (Zon.out.now kW)
  replace Zod := hid (Zod.out.now kW)
  replace Zsn := hid (Zsn.out.now kW)
  replace Zsd := hid (Zsd.out.now kW)
  replace Zdn := hid (Zdn.out.now kW)
  replace Zdd := hid (Zdd.out.now kW)
  replace Zpn := hid (Zpn.out.now kW)
  replace Zpd := hid (Zpd.out.now kW)
  replace Zqn := hid (Zqn.out.now kW)
  replace Zqd := hid (Zqd.out.now kW)
  replace Zx := hid (Zx.out.now kW)
  replace Zy := hid (Zy.out.now kW)
  replace Zz := hid (Zz.out.now kW)
  replace Pa := hid (Pa.out.step kW)
  replace Pb := hid (Pb.out.step kW)
  replace Po := hid (Po.out.step kW)
  replace Ps := hid (Ps.out.step kW)
  replace Pd := hid (Pd.out.step kW)
  replace Pp := hid (Pp.out.step kW)
  replace Pq := hid (Pq.out.step kW)
  replace Px := hid (Px.out.step kW)
  replace Py := hid (Py.out.step kW)
  replace G := hid (below_step G.out kW)
  have lz46 := (show Below _ _ _ from kW).size
  have Pz : Hid (Duo V45 (w43.heap.size) (.bool nz) (.slice adz xz.length qz)) := by unfold Hid; rw [← hW]; exact duo_at (by simp)
  clear kW
  have NZ := hid (nz_mul HDa.out HDb.out)
  have CS : Hid (qs.num * (AD * BD) = (AN * BD + BN * AD) * (qs.den : Int)) := cross_q NZ.out (by rw [EQs.out, add_as HDa.out HDb.out EQa.out EQb.out])
  have CD : Hid (qd.num * (AD * BD) = (AN * BD - BN * AD) * (qd.den : Int)) := by have h := cross_q (q := qd) NZ.out (by rw [EQd.out, ← sub_as HDa.out HDb.out EQa.out EQb.out]); rw [sub_as'] at h; exact h
  have CP : Hid (qp.num * (AD * BD) = (AN * BN) * (qp.den : Int)) := cross_q NZ.out (by rw [EQp.out, mul_as EQa.out EQb.out])
  have CQ : Hid (qq.num * (BN * AD) = (AN * BD) * (qq.den : Int)) := cross_q (nz_mul HN.out HDa.out) (by rw [EQq.out, ← div_as EQa.out EQb.out, Int.mul_comm AD BN])
  have q1 : ((0 : Int) != 0) = false := rfl
  have EW := hid hW
  clear hW
  go_wp2_with fail
  rw [EW.out]
  clear EW
  refine wp_region_tail (fun w' => w'.cell? ⟨w7.heap.size, 0, none⟩ = some (.bool nsn) ∧ w'.cell? ⟨w7.heap.size, 1, none⟩ = some (.slice adsn xsn.length qsn) ∧ w'.cell? ⟨w7.heap.size, 2, none⟩ = some (.bool nsd) ∧ w'.cell? ⟨w7.heap.size, 3, none⟩ = some (.slice adsd xsd.length qsd) ∧ w'.cell? ⟨w35.heap.size, 0, none⟩ = some (.bool nx) ∧ w'.cell? ⟨w35.heap.size, 1, none⟩ = some (.slice adx xx.length qx) ∧ w'.cell? ⟨w39.heap.size, 0, none⟩ = some (.bool ny) ∧ w'.cell? ⟨w39.heap.size, 1, none⟩ = some (.slice ady xy.length qy) ∧ w'.cell? ⟨w43.heap.size, 0, none⟩ = some (.bool nz) ∧ w'.cell? ⟨w43.heap.size, 1, none⟩ = some (.slice adz xz.length qz) ∧ w'.cell? ⟨w11.heap.size, 0, none⟩ = some (.bool ndn) ∧ w'.cell? ⟨w11.heap.size, 1, none⟩ = some (.slice addn xdn.length qdn) ∧ w'.cell? ⟨w11.heap.size, 2, none⟩ = some (.bool ndd) ∧ w'.cell? ⟨w11.heap.size, 3, none⟩ = some (.slice addd xdd.length qdd) ∧ w'.cell? ⟨w15.heap.size, 0, none⟩ = some (.bool npn) ∧ w'.cell? ⟨w15.heap.size, 1, none⟩ = some (.slice adpn xpn.length qpn) ∧ w'.cell? ⟨w15.heap.size, 2, none⟩ = some (.bool npd) ∧ w'.cell? ⟨w15.heap.size, 3, none⟩ = some (.slice adpd xpd.length qpd) ∧ w'.cell? ⟨w.heap.size, 0, none⟩ = some (.bool nan) ∧ w'.cell? ⟨w.heap.size, 1, none⟩ = some (.slice adan xan.length can) ∧ w'.cell? ⟨w.heap.size, 2, none⟩ = some (.bool nad) ∧ w'.cell? ⟨w.heap.size, 3, none⟩ = some (.slice adad xad.length cad) ∧ w'.cell? ⟨w.heap.size + 1, 0, none⟩ = some (.bool nbn) ∧ w'.cell? ⟨w.heap.size + 1, 1, none⟩ = some (.slice adbn xbn.length cbn) ∧ w'.cell? ⟨w.heap.size + 1, 2, none⟩ = some (.bool nbd) ∧ w'.cell? ⟨w.heap.size + 1, 3, none⟩ = some (.slice adbd xbd.length cbd)) 38 (by kernel_rfl) ?_
  obtain ⟨D47, hD⟩ : ∃ D47, V45.drew = D47 := ⟨_, rfl⟩
  have b : Below V45.heap.size V45 D47 := by rw [← hD]; exact (Below.refl _ _).drew
  rw [hD]
  clear hD
  replace Zan := hid (Zan.out.now b)
  replace Zad := hid (Zad.out.now b)
  replace Zbn := hid (Zbn.out.now b)
  replace Zbd := hid (Zbd.out.now b)
  replace Zon := hid (Zon.out.now b)
  replace Zod := hid (Zod.out.now b)
  replace Zsn := hid (Zsn.out.now b)
  replace Zsd := hid (Zsd.out.now b)
  replace Zdn := hid (Zdn.out.now b)
  replace Zdd := hid (Zdd.out.now b)
  replace Zpn := hid (Zpn.out.now b)
  replace Zpd := hid (Zpd.out.now b)
  replace Zqn := hid (Zqn.out.now b)
  replace Zqd := hid (Zqd.out.now b)
  replace Zx := hid (Zx.out.now b)
  replace Zy := hid (Zy.out.now b)
  replace Zz := hid (Zz.out.now b)
  replace Pa := hid (Pa.out.step b)
  replace Pb := hid (Pb.out.step b)
  replace Po := hid (Po.out.step b)
  replace Ps := hid (Ps.out.step b)
  replace Pd := hid (Pd.out.step b)
  replace Pp := hid (Pp.out.step b)
  replace Pq := hid (Pq.out.step b)
  replace Px := hid (Px.out.step b)
  replace Py := hid (Py.out.step b)
  replace Pz := hid (Pz.out.step b)
  replace G := hid (below_step G.out b)
  have lz48 := (show Below _ _ _ from b).size
  clear b
  refine wpAnyT_take (i := 0) (oi := { dst := some 112, op := Op.move (Operand.tmp 8), type := 28, pos := "outright.go:48", after := #[], guard := none }) (v := (.int .i64 0)) rfl (by kernel_rfl) (fun _ _ _ h => h) (Or.inl ⟨by rfl, ?_⟩) ⟨(Ps.out.at (i := 0) rfl), (Ps.out.at (i := 1) rfl), (Ps.out.at (i := 2) rfl), (Ps.out.at (i := 3) rfl), Px.out.c0, Px.out.c1, Py.out.c0, Py.out.c1, Pz.out.c0, Pz.out.c1, (Pd.out.at (i := 0) rfl), (Pd.out.at (i := 1) rfl), (Pd.out.at (i := 2) rfl), (Pd.out.at (i := 3) rfl), (Pp.out.at (i := 0) rfl), (Pp.out.at (i := 1) rfl), (Pp.out.at (i := 2) rfl), (Pp.out.at (i := 3) rfl), (Pa.out.at (i := 0) rfl), (Pa.out.at (i := 1) rfl), (Pa.out.at (i := 2) rfl), (Pa.out.at (i := 3) rfl), (Pb.out.at (i := 0) rfl), (Pb.out.at (i := 1) rfl), (Pb.out.at (i := 2) rfl), (Pb.out.at (i := 3) rfl)⟩ ?_
  · intro w hSw
    (try dsimp only at hSw)
    go_simp
  simp only [Act.put, List.setIfInBounds_toArray, List.set_cons_zero, List.set_cons_succ]
  refine wpAnyT_take (i := 1) (oi := { dst := some 113, op := Op.binOp BinOp.neq 28 (Operand.tmp 112) (Operand.const (Value.int IntKind.i64 0)) 28, type := 4, pos := "outright.go:48", after := #[{ on := 0, ground := Ground.data }], guard := none }) (v := (.bool false)) rfl (by kernel_rfl) (fun _ _ _ h => h) (Or.inl ⟨by rfl, ?_⟩) ⟨(Ps.out.at (i := 0) rfl), (Ps.out.at (i := 1) rfl), (Ps.out.at (i := 2) rfl), (Ps.out.at (i := 3) rfl), Px.out.c0, Px.out.c1, Py.out.c0, Py.out.c1, Pz.out.c0, Pz.out.c1, (Pd.out.at (i := 0) rfl), (Pd.out.at (i := 1) rfl), (Pd.out.at (i := 2) rfl), (Pd.out.at (i := 3) rfl), (Pp.out.at (i := 0) rfl), (Pp.out.at (i := 1) rfl), (Pp.out.at (i := 2) rfl), (Pp.out.at (i := 3) rfl), (Pa.out.at (i := 0) rfl), (Pa.out.at (i := 1) rfl), (Pa.out.at (i := 2) rfl), (Pa.out.at (i := 3) rfl), (Pb.out.at (i := 0) rfl), (Pb.out.at (i := 1) rfl), (Pb.out.at (i := 2) rfl), (Pb.out.at (i := 3) rfl)⟩ ?_
  · intro w hSw
    (try dsimp only at hSw)
    go_simp
  simp only [Act.put, List.setIfInBounds_toArray, List.set_cons_zero, List.set_cons_succ]
  refine wpAnyT_take (i := 2) (oi := { dst := some 114, op := Op.move (Operand.tmp 113), type := 4, pos := "outright.go:48", after := #[{ on := 1, ground := Ground.data }], guard := none }) (v := (.bool false)) rfl (by kernel_rfl) (fun _ _ _ h => h) (Or.inl ⟨by rfl, ?_⟩) ⟨(Ps.out.at (i := 0) rfl), (Ps.out.at (i := 1) rfl), (Ps.out.at (i := 2) rfl), (Ps.out.at (i := 3) rfl), Px.out.c0, Px.out.c1, Py.out.c0, Py.out.c1, Pz.out.c0, Pz.out.c1, (Pd.out.at (i := 0) rfl), (Pd.out.at (i := 1) rfl), (Pd.out.at (i := 2) rfl), (Pd.out.at (i := 3) rfl), (Pp.out.at (i := 0) rfl), (Pp.out.at (i := 1) rfl), (Pp.out.at (i := 2) rfl), (Pp.out.at (i := 3) rfl), (Pa.out.at (i := 0) rfl), (Pa.out.at (i := 1) rfl), (Pa.out.at (i := 2) rfl), (Pa.out.at (i := 3) rfl), (Pb.out.at (i := 0) rfl), (Pb.out.at (i := 1) rfl), (Pb.out.at (i := 2) rfl), (Pb.out.at (i := 3) rfl)⟩ ?_
  · intro w hSw
    (try dsimp only at hSw)
    go_simp
  simp only [Act.put, List.setIfInBounds_toArray, List.set_cons_zero, List.set_cons_succ]
  refine wpAnyT_take (i := 3) (oi := { dst := some 115, op := Op.move (Operand.tmp 10), type := 28, pos := "outright.go:48", after := #[{ on := 2, ground := Ground.guard }], guard := some (2, false) }) (v := (.int .i64 0)) rfl (by kernel_rfl) (fun _ _ _ h => h) (Or.inl ⟨by rfl, ?_⟩) ⟨(Ps.out.at (i := 0) rfl), (Ps.out.at (i := 1) rfl), (Ps.out.at (i := 2) rfl), (Ps.out.at (i := 3) rfl), Px.out.c0, Px.out.c1, Py.out.c0, Py.out.c1, Pz.out.c0, Pz.out.c1, (Pd.out.at (i := 0) rfl), (Pd.out.at (i := 1) rfl), (Pd.out.at (i := 2) rfl), (Pd.out.at (i := 3) rfl), (Pp.out.at (i := 0) rfl), (Pp.out.at (i := 1) rfl), (Pp.out.at (i := 2) rfl), (Pp.out.at (i := 3) rfl), (Pa.out.at (i := 0) rfl), (Pa.out.at (i := 1) rfl), (Pa.out.at (i := 2) rfl), (Pa.out.at (i := 3) rfl), (Pb.out.at (i := 0) rfl), (Pb.out.at (i := 1) rfl), (Pb.out.at (i := 2) rfl), (Pb.out.at (i := 3) rfl)⟩ ?_
  · intro w hSw
    (try dsimp only at hSw)
    go_simp
  simp only [Act.put, List.setIfInBounds_toArray, List.set_cons_zero, List.set_cons_succ]
  refine wpAnyT_take (i := 4) (oi := { dst := some 116, op := Op.binOp BinOp.neq 28 (Operand.tmp 115) (Operand.const (Value.int IntKind.i64 0)) 28, type := 4, pos := "outright.go:48", after := #[{ on := 3, ground := Ground.data }, { on := 2, ground := Ground.guard }], guard := some (2, false) }) (v := (.bool false)) rfl (by kernel_rfl) (fun _ _ _ h => h) (Or.inl ⟨by rfl, ?_⟩) ⟨(Ps.out.at (i := 0) rfl), (Ps.out.at (i := 1) rfl), (Ps.out.at (i := 2) rfl), (Ps.out.at (i := 3) rfl), Px.out.c0, Px.out.c1, Py.out.c0, Py.out.c1, Pz.out.c0, Pz.out.c1, (Pd.out.at (i := 0) rfl), (Pd.out.at (i := 1) rfl), (Pd.out.at (i := 2) rfl), (Pd.out.at (i := 3) rfl), (Pp.out.at (i := 0) rfl), (Pp.out.at (i := 1) rfl), (Pp.out.at (i := 2) rfl), (Pp.out.at (i := 3) rfl), (Pa.out.at (i := 0) rfl), (Pa.out.at (i := 1) rfl), (Pa.out.at (i := 2) rfl), (Pa.out.at (i := 3) rfl), (Pb.out.at (i := 0) rfl), (Pb.out.at (i := 1) rfl), (Pb.out.at (i := 2) rfl), (Pb.out.at (i := 3) rfl)⟩ ?_
  · intro w hSw
    (try dsimp only at hSw)
    go_simp
  simp only [Act.put, List.setIfInBounds_toArray, List.set_cons_zero, List.set_cons_succ]
  refine wpAnyT_take (i := 5) (oi := { dst := some 117, op := Op.pick (Operand.tmp 114) (Operand.const (Value.bool true)) (Operand.tmp 116), type := 4, pos := "outright.go:48", after := #[{ on := 2, ground := Ground.data }, { on := 4, ground := Ground.data }], guard := none }) (v := (.bool false)) rfl (by kernel_rfl) (fun _ _ _ h => h) (Or.inl ⟨by rfl, ?_⟩) ⟨(Ps.out.at (i := 0) rfl), (Ps.out.at (i := 1) rfl), (Ps.out.at (i := 2) rfl), (Ps.out.at (i := 3) rfl), Px.out.c0, Px.out.c1, Py.out.c0, Py.out.c1, Pz.out.c0, Pz.out.c1, (Pd.out.at (i := 0) rfl), (Pd.out.at (i := 1) rfl), (Pd.out.at (i := 2) rfl), (Pd.out.at (i := 3) rfl), (Pp.out.at (i := 0) rfl), (Pp.out.at (i := 1) rfl), (Pp.out.at (i := 2) rfl), (Pp.out.at (i := 3) rfl), (Pa.out.at (i := 0) rfl), (Pa.out.at (i := 1) rfl), (Pa.out.at (i := 2) rfl), (Pa.out.at (i := 3) rfl), (Pb.out.at (i := 0) rfl), (Pb.out.at (i := 1) rfl), (Pb.out.at (i := 2) rfl), (Pb.out.at (i := 3) rfl)⟩ ?_
  · intro w hSw
    (try dsimp only at hSw)
    go_simp
  simp only [Act.put, List.setIfInBounds_toArray, List.set_cons_zero, List.set_cons_succ]
  refine wpAnyT_take (i := 6) (oi := { dst := some 118, op := Op.move (Operand.tmp 117), type := 4, pos := "outright.go:48", after := #[{ on := 5, ground := Ground.data }, { on := 2, ground := Ground.chain }], guard := none }) (v := (.bool false)) rfl (by kernel_rfl) (fun _ _ _ h => h) (Or.inl ⟨by rfl, ?_⟩) ⟨(Ps.out.at (i := 0) rfl), (Ps.out.at (i := 1) rfl), (Ps.out.at (i := 2) rfl), (Ps.out.at (i := 3) rfl), Px.out.c0, Px.out.c1, Py.out.c0, Py.out.c1, Pz.out.c0, Pz.out.c1, (Pd.out.at (i := 0) rfl), (Pd.out.at (i := 1) rfl), (Pd.out.at (i := 2) rfl), (Pd.out.at (i := 3) rfl), (Pp.out.at (i := 0) rfl), (Pp.out.at (i := 1) rfl), (Pp.out.at (i := 2) rfl), (Pp.out.at (i := 3) rfl), (Pa.out.at (i := 0) rfl), (Pa.out.at (i := 1) rfl), (Pa.out.at (i := 2) rfl), (Pa.out.at (i := 3) rfl), (Pb.out.at (i := 0) rfl), (Pb.out.at (i := 1) rfl), (Pb.out.at (i := 2) rfl), (Pb.out.at (i := 3) rfl)⟩ ?_
  · intro w hSw
    (try dsimp only at hSw)
    go_simp
  simp only [Act.put, List.setIfInBounds_toArray, List.set_cons_zero, List.set_cons_succ]
  refine wpAnyT_take (i := 7) (oi := { dst := some 119, op := Op.move (Operand.tmp 12), type := 28, pos := "outright.go:48", after := #[{ on := 6, ground := Ground.guard }], guard := some (6, false) }) (v := (.int .i64 0)) rfl (by kernel_rfl) (fun _ _ _ h => h) (Or.inl ⟨by rfl, ?_⟩) ⟨(Ps.out.at (i := 0) rfl), (Ps.out.at (i := 1) rfl), (Ps.out.at (i := 2) rfl), (Ps.out.at (i := 3) rfl), Px.out.c0, Px.out.c1, Py.out.c0, Py.out.c1, Pz.out.c0, Pz.out.c1, (Pd.out.at (i := 0) rfl), (Pd.out.at (i := 1) rfl), (Pd.out.at (i := 2) rfl), (Pd.out.at (i := 3) rfl), (Pp.out.at (i := 0) rfl), (Pp.out.at (i := 1) rfl), (Pp.out.at (i := 2) rfl), (Pp.out.at (i := 3) rfl), (Pa.out.at (i := 0) rfl), (Pa.out.at (i := 1) rfl), (Pa.out.at (i := 2) rfl), (Pa.out.at (i := 3) rfl), (Pb.out.at (i := 0) rfl), (Pb.out.at (i := 1) rfl), (Pb.out.at (i := 2) rfl), (Pb.out.at (i := 3) rfl)⟩ ?_
  · intro w hSw
    (try dsimp only at hSw)
    go_simp
  simp only [Act.put, List.setIfInBounds_toArray, List.set_cons_zero, List.set_cons_succ]
  refine wpAnyT_take (i := 8) (oi := { dst := some 120, op := Op.binOp BinOp.neq 28 (Operand.tmp 119) (Operand.const (Value.int IntKind.i64 0)) 28, type := 4, pos := "outright.go:48", after := #[{ on := 7, ground := Ground.data }, { on := 6, ground := Ground.guard }], guard := some (6, false) }) (v := (.bool false)) rfl (by kernel_rfl) (fun _ _ _ h => h) (Or.inl ⟨by rfl, ?_⟩) ⟨(Ps.out.at (i := 0) rfl), (Ps.out.at (i := 1) rfl), (Ps.out.at (i := 2) rfl), (Ps.out.at (i := 3) rfl), Px.out.c0, Px.out.c1, Py.out.c0, Py.out.c1, Pz.out.c0, Pz.out.c1, (Pd.out.at (i := 0) rfl), (Pd.out.at (i := 1) rfl), (Pd.out.at (i := 2) rfl), (Pd.out.at (i := 3) rfl), (Pp.out.at (i := 0) rfl), (Pp.out.at (i := 1) rfl), (Pp.out.at (i := 2) rfl), (Pp.out.at (i := 3) rfl), (Pa.out.at (i := 0) rfl), (Pa.out.at (i := 1) rfl), (Pa.out.at (i := 2) rfl), (Pa.out.at (i := 3) rfl), (Pb.out.at (i := 0) rfl), (Pb.out.at (i := 1) rfl), (Pb.out.at (i := 2) rfl), (Pb.out.at (i := 3) rfl)⟩ ?_
  · intro w hSw
    (try dsimp only at hSw)
    go_simp
  simp only [Act.put, List.setIfInBounds_toArray, List.set_cons_zero, List.set_cons_succ]
  refine wpAnyT_take (i := 9) (oi := { dst := some 121, op := Op.pick (Operand.tmp 118) (Operand.const (Value.bool true)) (Operand.tmp 120), type := 4, pos := "outright.go:48", after := #[{ on := 6, ground := Ground.data }, { on := 8, ground := Ground.data }], guard := none }) (v := (.bool false)) rfl (by kernel_rfl) (fun _ _ _ h => h) (Or.inl ⟨by rfl, ?_⟩) ⟨(Ps.out.at (i := 0) rfl), (Ps.out.at (i := 1) rfl), (Ps.out.at (i := 2) rfl), (Ps.out.at (i := 3) rfl), Px.out.c0, Px.out.c1, Py.out.c0, Py.out.c1, Pz.out.c0, Pz.out.c1, (Pd.out.at (i := 0) rfl), (Pd.out.at (i := 1) rfl), (Pd.out.at (i := 2) rfl), (Pd.out.at (i := 3) rfl), (Pp.out.at (i := 0) rfl), (Pp.out.at (i := 1) rfl), (Pp.out.at (i := 2) rfl), (Pp.out.at (i := 3) rfl), (Pa.out.at (i := 0) rfl), (Pa.out.at (i := 1) rfl), (Pa.out.at (i := 2) rfl), (Pa.out.at (i := 3) rfl), (Pb.out.at (i := 0) rfl), (Pb.out.at (i := 1) rfl), (Pb.out.at (i := 2) rfl), (Pb.out.at (i := 3) rfl)⟩ ?_
  · intro w hSw
    (try dsimp only at hSw)
    go_simp
  simp only [Act.put, List.setIfInBounds_toArray, List.set_cons_zero, List.set_cons_succ]
  refine wpAnyT_take (i := 10) (oi := { dst := some 122, op := Op.move (Operand.tmp 121), type := 4, pos := "outright.go:48", after := #[{ on := 9, ground := Ground.data }, { on := 6, ground := Ground.chain }], guard := none }) (v := (.bool false)) rfl (by kernel_rfl) (fun _ _ _ h => h) (Or.inl ⟨by rfl, ?_⟩) ⟨(Ps.out.at (i := 0) rfl), (Ps.out.at (i := 1) rfl), (Ps.out.at (i := 2) rfl), (Ps.out.at (i := 3) rfl), Px.out.c0, Px.out.c1, Py.out.c0, Py.out.c1, Pz.out.c0, Pz.out.c1, (Pd.out.at (i := 0) rfl), (Pd.out.at (i := 1) rfl), (Pd.out.at (i := 2) rfl), (Pd.out.at (i := 3) rfl), (Pp.out.at (i := 0) rfl), (Pp.out.at (i := 1) rfl), (Pp.out.at (i := 2) rfl), (Pp.out.at (i := 3) rfl), (Pa.out.at (i := 0) rfl), (Pa.out.at (i := 1) rfl), (Pa.out.at (i := 2) rfl), (Pa.out.at (i := 3) rfl), (Pb.out.at (i := 0) rfl), (Pb.out.at (i := 1) rfl), (Pb.out.at (i := 2) rfl), (Pb.out.at (i := 3) rfl)⟩ ?_
  · intro w hSw
    (try dsimp only at hSw)
    go_simp
  simp only [Act.put, List.setIfInBounds_toArray, List.set_cons_zero, List.set_cons_succ]
  refine wpAnyT_take (i := 11) (oi := { dst := some 123, op := Op.load 26 (Operand.tmp 7), type := 26, pos := "outright.go:48", after := #[{ on := 10, ground := Ground.guard }], guard := some (10, false) }) (v := (.agg #[(.bool nsn), (.slice adsn xsn.length qsn), (.bool nsd), (.slice adsd xsd.length qsd)])) rfl (by kernel_rfl) (fun _ _ _ h => h) (Or.inl ⟨by rfl, ?_⟩) ⟨(Ps.out.at (i := 0) rfl), (Ps.out.at (i := 1) rfl), (Ps.out.at (i := 2) rfl), (Ps.out.at (i := 3) rfl), Px.out.c0, Px.out.c1, Py.out.c0, Py.out.c1, Pz.out.c0, Pz.out.c1, (Pd.out.at (i := 0) rfl), (Pd.out.at (i := 1) rfl), (Pd.out.at (i := 2) rfl), (Pd.out.at (i := 3) rfl), (Pp.out.at (i := 0) rfl), (Pp.out.at (i := 1) rfl), (Pp.out.at (i := 2) rfl), (Pp.out.at (i := 3) rfl), (Pa.out.at (i := 0) rfl), (Pa.out.at (i := 1) rfl), (Pa.out.at (i := 2) rfl), (Pa.out.at (i := 3) rfl), (Pb.out.at (i := 0) rfl), (Pb.out.at (i := 1) rfl), (Pb.out.at (i := 2) rfl), (Pb.out.at (i := 3) rfl)⟩ ?_
  · intro w hSw
    (try dsimp only at hSw)
    go_simp
  simp only [Act.put, List.setIfInBounds_toArray, List.set_cons_zero, List.set_cons_succ]
  refine wpAnyT_take (i := 12) (oi := { dst := some 124, op := Op.load 24 (Operand.tmp 15), type := 24, pos := "outright.go:48", after := #[{ on := 10, ground := Ground.guard }], guard := some (10, false) }) (v := (.agg #[(.bool nx), (.slice adx xx.length qx)])) rfl (by kernel_rfl) (fun _ _ _ h => h) (Or.inl ⟨by rfl, ?_⟩) ⟨(Ps.out.at (i := 0) rfl), (Ps.out.at (i := 1) rfl), (Ps.out.at (i := 2) rfl), (Ps.out.at (i := 3) rfl), Px.out.c0, Px.out.c1, Py.out.c0, Py.out.c1, Pz.out.c0, Pz.out.c1, (Pd.out.at (i := 0) rfl), (Pd.out.at (i := 1) rfl), (Pd.out.at (i := 2) rfl), (Pd.out.at (i := 3) rfl), (Pp.out.at (i := 0) rfl), (Pp.out.at (i := 1) rfl), (Pp.out.at (i := 2) rfl), (Pp.out.at (i := 3) rfl), (Pa.out.at (i := 0) rfl), (Pa.out.at (i := 1) rfl), (Pa.out.at (i := 2) rfl), (Pa.out.at (i := 3) rfl), (Pb.out.at (i := 0) rfl), (Pb.out.at (i := 1) rfl), (Pb.out.at (i := 2) rfl), (Pb.out.at (i := 3) rfl)⟩ ?_
  · intro w hSw
    (try dsimp only at hSw)
    go_simp
  simp only [Act.put, List.setIfInBounds_toArray, List.set_cons_zero, List.set_cons_succ]
  refine wpAnyT_take (i := 13) (oi := { dst := some 125, op := Op.load 24 (Operand.tmp 16), type := 24, pos := "outright.go:48", after := #[{ on := 10, ground := Ground.guard }], guard := some (10, false) }) (v := (.agg #[(.bool ny), (.slice ady xy.length qy)])) rfl (by kernel_rfl) (fun _ _ _ h => h) (Or.inl ⟨by rfl, ?_⟩) ⟨(Ps.out.at (i := 0) rfl), (Ps.out.at (i := 1) rfl), (Ps.out.at (i := 2) rfl), (Ps.out.at (i := 3) rfl), Px.out.c0, Px.out.c1, Py.out.c0, Py.out.c1, Pz.out.c0, Pz.out.c1, (Pd.out.at (i := 0) rfl), (Pd.out.at (i := 1) rfl), (Pd.out.at (i := 2) rfl), (Pd.out.at (i := 3) rfl), (Pp.out.at (i := 0) rfl), (Pp.out.at (i := 1) rfl), (Pp.out.at (i := 2) rfl), (Pp.out.at (i := 3) rfl), (Pa.out.at (i := 0) rfl), (Pa.out.at (i := 1) rfl), (Pa.out.at (i := 2) rfl), (Pa.out.at (i := 3) rfl), (Pb.out.at (i := 0) rfl), (Pb.out.at (i := 1) rfl), (Pb.out.at (i := 2) rfl), (Pb.out.at (i := 3) rfl)⟩ ?_
  · intro w hSw
    (try dsimp only at hSw)
    go_simp
  simp only [Act.put, List.setIfInBounds_toArray, List.set_cons_zero, List.set_cons_succ]
  refine wpAnyT_take (i := 15) (oi := { dst := some 127, op := Op.load 24 (Operand.tmp 17), type := 24, pos := "outright.go:48", after := #[{ on := 10, ground := Ground.guard }], guard := some (10, false) }) (v := (.agg #[(.bool nz), (.slice adz xz.length qz)])) rfl (by kernel_rfl) (fun _ _ _ h => h) (Or.inl ⟨by rfl, ?_⟩) ⟨(Ps.out.at (i := 0) rfl), (Ps.out.at (i := 1) rfl), (Ps.out.at (i := 2) rfl), (Ps.out.at (i := 3) rfl), Px.out.c0, Px.out.c1, Py.out.c0, Py.out.c1, Pz.out.c0, Pz.out.c1, (Pd.out.at (i := 0) rfl), (Pd.out.at (i := 1) rfl), (Pd.out.at (i := 2) rfl), (Pd.out.at (i := 3) rfl), (Pp.out.at (i := 0) rfl), (Pp.out.at (i := 1) rfl), (Pp.out.at (i := 2) rfl), (Pp.out.at (i := 3) rfl), (Pa.out.at (i := 0) rfl), (Pa.out.at (i := 1) rfl), (Pa.out.at (i := 2) rfl), (Pa.out.at (i := 3) rfl), (Pb.out.at (i := 0) rfl), (Pb.out.at (i := 1) rfl), (Pb.out.at (i := 2) rfl), (Pb.out.at (i := 3) rfl)⟩ ?_
  · intro w hSw
    (try dsimp only at hSw)
    go_simp
  simp only [Act.put, List.setIfInBounds_toArray, List.set_cons_zero, List.set_cons_succ]
  refine wpAnyT_one (i := 14) (o := { dst := some 126, op := Op.call { callee := Callee.value (Operand.func 17), args := #[Operand.tmp 124, Operand.tmp 125], argTypes := #[24, 24] }, type := 24, pos := "outright.go:48", after := #[{ on := 12, ground := Ground.data }, { on := 13, ground := Ground.data }, { on := 10, ground := Ground.chain }, { on := 10, ground := Ground.guard }], guard := some (10, false) }) (by kernel_rfl) rfl (fun K hK => ?_)
  go_simp
  go_at_call 17
  refine (add_z Zx.out.zi Zy.out.zi (by decide) (by decide)).mono ?_
  rintro e w49 ⟨r0, rfl, m0, b⟩
  obtain ⟨nu, xu, adu, qu, rfl, -, -, -, -, -⟩ := id m0
  replace Zan := hid (Zan.out.now b)
  replace Zad := hid (Zad.out.now b)
  replace Zbn := hid (Zbn.out.now b)
  replace Zbd := hid (Zbd.out.now b)
  replace Zon := hid (Zon.out.now b)
  replace Zod := hid (Zod.out.now b)
  replace Zsn := hid (Zsn.out.now b)
  replace Zsd := hid (Zsd.out.now b)
  replace Zdn := hid (Zdn.out.now b)
  replace Zdd := hid (Zdd.out.now b)
  replace Zpn := hid (Zpn.out.now b)
  replace Zpd := hid (Zpd.out.now b)
  replace Zqn := hid (Zqn.out.now b)
  replace Zqd := hid (Zqd.out.now b)
  replace Zx := hid (Zx.out.now b)
  replace Zy := hid (Zy.out.now b)
  replace Zz := hid (Zz.out.now b)
  replace Pa := hid (Pa.out.step b)
  replace Pb := hid (Pb.out.step b)
  replace Po := hid (Po.out.step b)
  replace Ps := hid (Ps.out.step b)
  replace Pd := hid (Pd.out.step b)
  replace Pp := hid (Pp.out.step b)
  replace Pq := hid (Pq.out.step b)
  replace Px := hid (Px.out.step b)
  replace Py := hid (Py.out.step b)
  replace Pz := hid (Pz.out.step b)
  replace G := hid (below_step G.out b)
  have lz50 := (show Below _ _ _ from b).size
  have Zu := hid m0
  clear b m0
  refine hK.out _ _ (fun _ => ⟨(Ps.out.at (i := 0) rfl), (Ps.out.at (i := 1) rfl), (Ps.out.at (i := 2) rfl), (Ps.out.at (i := 3) rfl), Px.out.c0, Px.out.c1, Py.out.c0, Py.out.c1, Pz.out.c0, Pz.out.c1, (Pd.out.at (i := 0) rfl), (Pd.out.at (i := 1) rfl), (Pd.out.at (i := 2) rfl), (Pd.out.at (i := 3) rfl), (Pp.out.at (i := 0) rfl), (Pp.out.at (i := 1) rfl), (Pp.out.at (i := 2) rfl), (Pp.out.at (i := 3) rfl), (Pa.out.at (i := 0) rfl), (Pa.out.at (i := 1) rfl), (Pa.out.at (i := 2) rfl), (Pa.out.at (i := 3) rfl), (Pb.out.at (i := 0) rfl), (Pb.out.at (i := 1) rfl), (Pb.out.at (i := 2) rfl), (Pb.out.at (i := 3) rfl)⟩) ?_
  clear hK
  refine wpAnyT_one (i := 16) (o := { dst := some 128, op := Op.call { callee := Callee.value (Operand.func 15), args := #[Operand.tmp 123, Operand.tmp 126, Operand.tmp 127], argTypes := #[26, 24, 24] }, type := 4, pos := "outright.go:48", after := #[{ on := 11, ground := Ground.data }, { on := 14, ground := Ground.data }, { on := 15, ground := Ground.data }, { on := 14, ground := Ground.chain }, { on := 10, ground := Ground.guard }], guard := some (10, false) }) (by kernel_rfl) rfl (fun K hK => ?_)
  go_simp
  go_at_call 15
  refine (names8 (k := 2097153) Zsn.out.zc Zsd.out.zc (Zu.out.zi.more (by decide)) (Zz.out.zi.more (by decide)) (by decide) CS.out).mono ?_
  rintro e w51 ⟨rfl, b⟩
  replace Zan := hid (Zan.out.now b)
  replace Zad := hid (Zad.out.now b)
  replace Zbn := hid (Zbn.out.now b)
  replace Zbd := hid (Zbd.out.now b)
  replace Zon := hid (Zon.out.now b)
  replace Zod := hid (Zod.out.now b)
  replace Zsn := hid (Zsn.out.now b)
  replace Zsd := hid (Zsd.out.now b)
  replace Zdn := hid (Zdn.out.now b)
  replace Zdd := hid (Zdd.out.now b)
  replace Zpn := hid (Zpn.out.now b)
  replace Zpd := hid (Zpd.out.now b)
  replace Zqn := hid (Zqn.out.now b)
  replace Zqd := hid (Zqd.out.now b)
  replace Zx := hid (Zx.out.now b)
  replace Zy := hid (Zy.out.now b)
  replace Zz := hid (Zz.out.now b)
  replace Zu := hid (Zu.out.now b)
  replace Pa := hid (Pa.out.step b)
  replace Pb := hid (Pb.out.step b)
  replace Po := hid (Po.out.step b)
  replace Ps := hid (Ps.out.step b)
  replace Pd := hid (Pd.out.step b)
  replace Pp := hid (Pp.out.step b)
  replace Pq := hid (Pq.out.step b)
  replace Px := hid (Px.out.step b)
  replace Py := hid (Py.out.step b)
  replace Pz := hid (Pz.out.step b)
  replace G := hid (below_step G.out b)
  have lz52 := (show Below _ _ _ from b).size
  clear b 
  refine hK.out _ _ (fun _ => ⟨(Ps.out.at (i := 0) rfl), (Ps.out.at (i := 1) rfl), (Ps.out.at (i := 2) rfl), (Ps.out.at (i := 3) rfl), Px.out.c0, Px.out.c1, Py.out.c0, Py.out.c1, Pz.out.c0, Pz.out.c1, (Pd.out.at (i := 0) rfl), (Pd.out.at (i := 1) rfl), (Pd.out.at (i := 2) rfl), (Pd.out.at (i := 3) rfl), (Pp.out.at (i := 0) rfl), (Pp.out.at (i := 1) rfl), (Pp.out.at (i := 2) rfl), (Pp.out.at (i := 3) rfl), (Pa.out.at (i := 0) rfl), (Pa.out.at (i := 1) rfl), (Pa.out.at (i := 2) rfl), (Pa.out.at (i := 3) rfl), (Pb.out.at (i := 0) rfl), (Pb.out.at (i := 1) rfl), (Pb.out.at (i := 2) rfl), (Pb.out.at (i := 3) rfl)⟩) ?_
  clear hK
  refine wpAnyT_take (i := 17) (oi := { dst := some 129, op := Op.unOp UnOp.not 4 (Operand.tmp 128), type := 4, pos := "outright.go:48", after := #[{ on := 16, ground := Ground.data }, { on := 10, ground := Ground.guard }], guard := some (10, false) }) (v := (.bool false)) rfl (by kernel_rfl) (fun _ _ _ h => h) (Or.inl ⟨by rfl, ?_⟩) ⟨(Ps.out.at (i := 0) rfl), (Ps.out.at (i := 1) rfl), (Ps.out.at (i := 2) rfl), (Ps.out.at (i := 3) rfl), Px.out.c0, Px.out.c1, Py.out.c0, Py.out.c1, Pz.out.c0, Pz.out.c1, (Pd.out.at (i := 0) rfl), (Pd.out.at (i := 1) rfl), (Pd.out.at (i := 2) rfl), (Pd.out.at (i := 3) rfl), (Pp.out.at (i := 0) rfl), (Pp.out.at (i := 1) rfl), (Pp.out.at (i := 2) rfl), (Pp.out.at (i := 3) rfl), (Pa.out.at (i := 0) rfl), (Pa.out.at (i := 1) rfl), (Pa.out.at (i := 2) rfl), (Pa.out.at (i := 3) rfl), (Pb.out.at (i := 0) rfl), (Pb.out.at (i := 1) rfl), (Pb.out.at (i := 2) rfl), (Pb.out.at (i := 3) rfl)⟩ ?_
  · intro w hSw
    (try dsimp only at hSw)
    go_simp
  simp only [Act.put, List.setIfInBounds_toArray, List.set_cons_zero, List.set_cons_succ]
  refine wpAnyT_take (i := 18) (oi := { dst := some 130, op := Op.pick (Operand.tmp 122) (Operand.const (Value.bool true)) (Operand.tmp 129), type := 4, pos := "outright.go:48", after := #[{ on := 10, ground := Ground.data }, { on := 17, ground := Ground.data }], guard := none }) (v := (.bool false)) rfl (by kernel_rfl) (fun _ _ _ h => h) (Or.inl ⟨by rfl, ?_⟩) ⟨(Ps.out.at (i := 0) rfl), (Ps.out.at (i := 1) rfl), (Ps.out.at (i := 2) rfl), (Ps.out.at (i := 3) rfl), Px.out.c0, Px.out.c1, Py.out.c0, Py.out.c1, Pz.out.c0, Pz.out.c1, (Pd.out.at (i := 0) rfl), (Pd.out.at (i := 1) rfl), (Pd.out.at (i := 2) rfl), (Pd.out.at (i := 3) rfl), (Pp.out.at (i := 0) rfl), (Pp.out.at (i := 1) rfl), (Pp.out.at (i := 2) rfl), (Pp.out.at (i := 3) rfl), (Pa.out.at (i := 0) rfl), (Pa.out.at (i := 1) rfl), (Pa.out.at (i := 2) rfl), (Pa.out.at (i := 3) rfl), (Pb.out.at (i := 0) rfl), (Pb.out.at (i := 1) rfl), (Pb.out.at (i := 2) rfl), (Pb.out.at (i := 3) rfl)⟩ ?_
  · intro w hSw
    (try dsimp only at hSw)
    go_simp
  simp only [Act.put, List.setIfInBounds_toArray, List.set_cons_zero, List.set_cons_succ]
  refine wpAnyT_take (i := 19) (oi := { dst := some 131, op := Op.move (Operand.tmp 130), type := 4, pos := "outright.go:48", after := #[{ on := 18, ground := Ground.data }, { on := 16, ground := Ground.chain }], guard := none }) (v := (.bool false)) rfl (by kernel_rfl) (fun _ _ _ h => h) (Or.inl ⟨by rfl, ?_⟩) ⟨(Ps.out.at (i := 0) rfl), (Ps.out.at (i := 1) rfl), (Ps.out.at (i := 2) rfl), (Ps.out.at (i := 3) rfl), Px.out.c0, Px.out.c1, Py.out.c0, Py.out.c1, Pz.out.c0, Pz.out.c1, (Pd.out.at (i := 0) rfl), (Pd.out.at (i := 1) rfl), (Pd.out.at (i := 2) rfl), (Pd.out.at (i := 3) rfl), (Pp.out.at (i := 0) rfl), (Pp.out.at (i := 1) rfl), (Pp.out.at (i := 2) rfl), (Pp.out.at (i := 3) rfl), (Pa.out.at (i := 0) rfl), (Pa.out.at (i := 1) rfl), (Pa.out.at (i := 2) rfl), (Pa.out.at (i := 3) rfl), (Pb.out.at (i := 0) rfl), (Pb.out.at (i := 1) rfl), (Pb.out.at (i := 2) rfl), (Pb.out.at (i := 3) rfl)⟩ ?_
  · intro w hSw
    (try dsimp only at hSw)
    go_simp
  simp only [Act.put, List.setIfInBounds_toArray, List.set_cons_zero, List.set_cons_succ]
  refine wpAnyT_take (i := 20) (oi := { dst := some 132, op := Op.load 26 (Operand.tmp 9), type := 26, pos := "outright.go:48", after := #[{ on := 19, ground := Ground.guard }], guard := some (19, false) }) (v := (.agg #[(.bool ndn), (.slice addn xdn.length qdn), (.bool ndd), (.slice addd xdd.length qdd)])) rfl (by kernel_rfl) (fun _ _ _ h => h) (Or.inl ⟨by rfl, ?_⟩) ⟨(Ps.out.at (i := 0) rfl), (Ps.out.at (i := 1) rfl), (Ps.out.at (i := 2) rfl), (Ps.out.at (i := 3) rfl), Px.out.c0, Px.out.c1, Py.out.c0, Py.out.c1, Pz.out.c0, Pz.out.c1, (Pd.out.at (i := 0) rfl), (Pd.out.at (i := 1) rfl), (Pd.out.at (i := 2) rfl), (Pd.out.at (i := 3) rfl), (Pp.out.at (i := 0) rfl), (Pp.out.at (i := 1) rfl), (Pp.out.at (i := 2) rfl), (Pp.out.at (i := 3) rfl), (Pa.out.at (i := 0) rfl), (Pa.out.at (i := 1) rfl), (Pa.out.at (i := 2) rfl), (Pa.out.at (i := 3) rfl), (Pb.out.at (i := 0) rfl), (Pb.out.at (i := 1) rfl), (Pb.out.at (i := 2) rfl), (Pb.out.at (i := 3) rfl)⟩ ?_
  · intro w hSw
    (try dsimp only at hSw)
    go_simp
  simp only [Act.put, List.setIfInBounds_toArray, List.set_cons_zero, List.set_cons_succ]
  refine wpAnyT_take (i := 21) (oi := { dst := some 133, op := Op.load 24 (Operand.tmp 15), type := 24, pos := "outright.go:48", after := #[{ on := 19, ground := Ground.guard }], guard := some (19, false) }) (v := (.agg #[(.bool nx), (.slice adx xx.length qx)])) rfl (by kernel_rfl) (fun _ _ _ h => h) (Or.inl ⟨by rfl, ?_⟩) ⟨(Ps.out.at (i := 0) rfl), (Ps.out.at (i := 1) rfl), (Ps.out.at (i := 2) rfl), (Ps.out.at (i := 3) rfl), Px.out.c0, Px.out.c1, Py.out.c0, Py.out.c1, Pz.out.c0, Pz.out.c1, (Pd.out.at (i := 0) rfl), (Pd.out.at (i := 1) rfl), (Pd.out.at (i := 2) rfl), (Pd.out.at (i := 3) rfl), (Pp.out.at (i := 0) rfl), (Pp.out.at (i := 1) rfl), (Pp.out.at (i := 2) rfl), (Pp.out.at (i := 3) rfl), (Pa.out.at (i := 0) rfl), (Pa.out.at (i := 1) rfl), (Pa.out.at (i := 2) rfl), (Pa.out.at (i := 3) rfl), (Pb.out.at (i := 0) rfl), (Pb.out.at (i := 1) rfl), (Pb.out.at (i := 2) rfl), (Pb.out.at (i := 3) rfl)⟩ ?_
  · intro w hSw
    (try dsimp only at hSw)
    go_simp
  simp only [Act.put, List.setIfInBounds_toArray, List.set_cons_zero, List.set_cons_succ]
  refine wpAnyT_take (i := 22) (oi := { dst := some 134, op := Op.load 24 (Operand.tmp 16), type := 24, pos := "outright.go:48", after := #[{ on := 19, ground := Ground.guard }], guard := some (19, false) }) (v := (.agg #[(.bool ny), (.slice ady xy.length qy)])) rfl (by kernel_rfl) (fun _ _ _ h => h) (Or.inl ⟨by rfl, ?_⟩) ⟨(Ps.out.at (i := 0) rfl), (Ps.out.at (i := 1) rfl), (Ps.out.at (i := 2) rfl), (Ps.out.at (i := 3) rfl), Px.out.c0, Px.out.c1, Py.out.c0, Py.out.c1, Pz.out.c0, Pz.out.c1, (Pd.out.at (i := 0) rfl), (Pd.out.at (i := 1) rfl), (Pd.out.at (i := 2) rfl), (Pd.out.at (i := 3) rfl), (Pp.out.at (i := 0) rfl), (Pp.out.at (i := 1) rfl), (Pp.out.at (i := 2) rfl), (Pp.out.at (i := 3) rfl), (Pa.out.at (i := 0) rfl), (Pa.out.at (i := 1) rfl), (Pa.out.at (i := 2) rfl), (Pa.out.at (i := 3) rfl), (Pb.out.at (i := 0) rfl), (Pb.out.at (i := 1) rfl), (Pb.out.at (i := 2) rfl), (Pb.out.at (i := 3) rfl)⟩ ?_
  · intro w hSw
    (try dsimp only at hSw)
    go_simp
  simp only [Act.put, List.setIfInBounds_toArray, List.set_cons_zero, List.set_cons_succ]
  refine wpAnyT_take (i := 24) (oi := { dst := some 136, op := Op.load 24 (Operand.tmp 17), type := 24, pos := "outright.go:48", after := #[{ on := 19, ground := Ground.guard }], guard := some (19, false) }) (v := (.agg #[(.bool nz), (.slice adz xz.length qz)])) rfl (by kernel_rfl) (fun _ _ _ h => h) (Or.inl ⟨by rfl, ?_⟩) ⟨(Ps.out.at (i := 0) rfl), (Ps.out.at (i := 1) rfl), (Ps.out.at (i := 2) rfl), (Ps.out.at (i := 3) rfl), Px.out.c0, Px.out.c1, Py.out.c0, Py.out.c1, Pz.out.c0, Pz.out.c1, (Pd.out.at (i := 0) rfl), (Pd.out.at (i := 1) rfl), (Pd.out.at (i := 2) rfl), (Pd.out.at (i := 3) rfl), (Pp.out.at (i := 0) rfl), (Pp.out.at (i := 1) rfl), (Pp.out.at (i := 2) rfl), (Pp.out.at (i := 3) rfl), (Pa.out.at (i := 0) rfl), (Pa.out.at (i := 1) rfl), (Pa.out.at (i := 2) rfl), (Pa.out.at (i := 3) rfl), (Pb.out.at (i := 0) rfl), (Pb.out.at (i := 1) rfl), (Pb.out.at (i := 2) rfl), (Pb.out.at (i := 3) rfl)⟩ ?_
  · intro w hSw
    (try dsimp only at hSw)
    go_simp
  simp only [Act.put, List.setIfInBounds_toArray, List.set_cons_zero, List.set_cons_succ]
  refine wpAnyT_one (i := 23) (o := { dst := some 135, op := Op.call { callee := Callee.value (Operand.func 18), args := #[Operand.tmp 133, Operand.tmp 134], argTypes := #[24, 24] }, type := 24, pos := "outright.go:48", after := #[{ on := 21, ground := Ground.data }, { on := 22, ground := Ground.data }, { on := 19, ground := Ground.chain }, { on := 19, ground := Ground.guard }], guard := some (19, false) }) (by kernel_rfl) rfl (fun K hK => ?_)
  go_simp
  go_at_call 18
  refine (sub_z Zx.out.zi Zy.out.zi (by decide) (by decide)).mono ?_
  rintro e w53 ⟨r0, rfl, m0, b⟩
  obtain ⟨nv, xv, adv, qv, rfl, -, -, -, -, -⟩ := id m0
  replace Zan := hid (Zan.out.now b)
  replace Zad := hid (Zad.out.now b)
  replace Zbn := hid (Zbn.out.now b)
  replace Zbd := hid (Zbd.out.now b)
  replace Zon := hid (Zon.out.now b)
  replace Zod := hid (Zod.out.now b)
  replace Zsn := hid (Zsn.out.now b)
  replace Zsd := hid (Zsd.out.now b)
  replace Zdn := hid (Zdn.out.now b)
  replace Zdd := hid (Zdd.out.now b)
  replace Zpn := hid (Zpn.out.now b)
  replace Zpd := hid (Zpd.out.now b)
  replace Zqn := hid (Zqn.out.now b)
  replace Zqd := hid (Zqd.out.now b)
  replace Zx := hid (Zx.out.now b)
  replace Zy := hid (Zy.out.now b)
  replace Zz := hid (Zz.out.now b)
  replace Zu := hid (Zu.out.now b)
  replace Pa := hid (Pa.out.step b)
  replace Pb := hid (Pb.out.step b)
  replace Po := hid (Po.out.step b)
  replace Ps := hid (Ps.out.step b)
  replace Pd := hid (Pd.out.step b)
  replace Pp := hid (Pp.out.step b)
  replace Pq := hid (Pq.out.step b)
  replace Px := hid (Px.out.step b)
  replace Py := hid (Py.out.step b)
  replace Pz := hid (Pz.out.step b)
  replace G := hid (below_step G.out b)
  have lz54 := (show Below _ _ _ from b).size
  have Zv := hid m0
  clear b m0
  refine hK.out _ _ (fun _ => ⟨(Ps.out.at (i := 0) rfl), (Ps.out.at (i := 1) rfl), (Ps.out.at (i := 2) rfl), (Ps.out.at (i := 3) rfl), Px.out.c0, Px.out.c1, Py.out.c0, Py.out.c1, Pz.out.c0, Pz.out.c1, (Pd.out.at (i := 0) rfl), (Pd.out.at (i := 1) rfl), (Pd.out.at (i := 2) rfl), (Pd.out.at (i := 3) rfl), (Pp.out.at (i := 0) rfl), (Pp.out.at (i := 1) rfl), (Pp.out.at (i := 2) rfl), (Pp.out.at (i := 3) rfl), (Pa.out.at (i := 0) rfl), (Pa.out.at (i := 1) rfl), (Pa.out.at (i := 2) rfl), (Pa.out.at (i := 3) rfl), (Pb.out.at (i := 0) rfl), (Pb.out.at (i := 1) rfl), (Pb.out.at (i := 2) rfl), (Pb.out.at (i := 3) rfl)⟩) ?_
  clear hK
  refine wpAnyT_one (i := 25) (o := { dst := some 137, op := Op.call { callee := Callee.value (Operand.func 15), args := #[Operand.tmp 132, Operand.tmp 135, Operand.tmp 136], argTypes := #[26, 24, 24] }, type := 4, pos := "outright.go:48", after := #[{ on := 20, ground := Ground.data }, { on := 23, ground := Ground.data }, { on := 24, ground := Ground.data }, { on := 23, ground := Ground.chain }, { on := 19, ground := Ground.guard }], guard := some (19, false) }) (by kernel_rfl) rfl (fun K hK => ?_)
  go_simp
  go_at_call 15
  refine (names8 (k := 2097153) Zdn.out.zc Zdd.out.zc (Zv.out.zi.more (by decide)) (Zz.out.zi.more (by decide)) (by decide) CD.out).mono ?_
  rintro e w55 ⟨rfl, b⟩
  replace Zan := hid (Zan.out.now b)
  replace Zad := hid (Zad.out.now b)
  replace Zbn := hid (Zbn.out.now b)
  replace Zbd := hid (Zbd.out.now b)
  replace Zon := hid (Zon.out.now b)
  replace Zod := hid (Zod.out.now b)
  replace Zsn := hid (Zsn.out.now b)
  replace Zsd := hid (Zsd.out.now b)
  replace Zdn := hid (Zdn.out.now b)
  replace Zdd := hid (Zdd.out.now b)
  replace Zpn := hid (Zpn.out.now b)
  replace Zpd := hid (Zpd.out.now b)
  replace Zqn := hid (Zqn.out.now b)
  replace Zqd := hid (Zqd.out.now b)
  replace Zx := hid (Zx.out.now b)
  replace Zy := hid (Zy.out.now b)
  replace Zz := hid (Zz.out.now b)
  replace Zu := hid (Zu.out.now b)
  replace Zv := hid (Zv.out.now b)
  replace Pa := hid (Pa.out.step b)
  replace Pb := hid (Pb.out.step b)
  replace Po := hid (Po.out.step b)
  replace Ps := hid (Ps.out.step b)
  replace Pd := hid (Pd.out.step b)
  replace Pp := hid (Pp.out.step b)
  replace Pq := hid (Pq.out.step b)
  replace Px := hid (Px.out.step b)
  replace Py := hid (Py.out.step b)
  replace Pz := hid (Pz.out.step b)
  replace G := hid (below_step G.out b)
  have lz56 := (show Below _ _ _ from b).size
  clear b 
  refine hK.out _ _ (fun _ => ⟨(Ps.out.at (i := 0) rfl), (Ps.out.at (i := 1) rfl), (Ps.out.at (i := 2) rfl), (Ps.out.at (i := 3) rfl), Px.out.c0, Px.out.c1, Py.out.c0, Py.out.c1, Pz.out.c0, Pz.out.c1, (Pd.out.at (i := 0) rfl), (Pd.out.at (i := 1) rfl), (Pd.out.at (i := 2) rfl), (Pd.out.at (i := 3) rfl), (Pp.out.at (i := 0) rfl), (Pp.out.at (i := 1) rfl), (Pp.out.at (i := 2) rfl), (Pp.out.at (i := 3) rfl), (Pa.out.at (i := 0) rfl), (Pa.out.at (i := 1) rfl), (Pa.out.at (i := 2) rfl), (Pa.out.at (i := 3) rfl), (Pb.out.at (i := 0) rfl), (Pb.out.at (i := 1) rfl), (Pb.out.at (i := 2) rfl), (Pb.out.at (i := 3) rfl)⟩) ?_
  clear hK
  refine wpAnyT_take (i := 26) (oi := { dst := some 138, op := Op.unOp UnOp.not 4 (Operand.tmp 137), type := 4, pos := "outright.go:48", after := #[{ on := 25, ground := Ground.data }, { on := 19, ground := Ground.guard }], guard := some (19, false) }) (v := (.bool false)) rfl (by kernel_rfl) (fun _ _ _ h => h) (Or.inl ⟨by rfl, ?_⟩) ⟨(Ps.out.at (i := 0) rfl), (Ps.out.at (i := 1) rfl), (Ps.out.at (i := 2) rfl), (Ps.out.at (i := 3) rfl), Px.out.c0, Px.out.c1, Py.out.c0, Py.out.c1, Pz.out.c0, Pz.out.c1, (Pd.out.at (i := 0) rfl), (Pd.out.at (i := 1) rfl), (Pd.out.at (i := 2) rfl), (Pd.out.at (i := 3) rfl), (Pp.out.at (i := 0) rfl), (Pp.out.at (i := 1) rfl), (Pp.out.at (i := 2) rfl), (Pp.out.at (i := 3) rfl), (Pa.out.at (i := 0) rfl), (Pa.out.at (i := 1) rfl), (Pa.out.at (i := 2) rfl), (Pa.out.at (i := 3) rfl), (Pb.out.at (i := 0) rfl), (Pb.out.at (i := 1) rfl), (Pb.out.at (i := 2) rfl), (Pb.out.at (i := 3) rfl)⟩ ?_
  · intro w hSw
    (try dsimp only at hSw)
    go_simp
  simp only [Act.put, List.setIfInBounds_toArray, List.set_cons_zero, List.set_cons_succ]
  refine wpAnyT_take (i := 27) (oi := { dst := some 139, op := Op.pick (Operand.tmp 131) (Operand.const (Value.bool true)) (Operand.tmp 138), type := 4, pos := "outright.go:48", after := #[{ on := 19, ground := Ground.data }, { on := 26, ground := Ground.data }], guard := none }) (v := (.bool false)) rfl (by kernel_rfl) (fun _ _ _ h => h) (Or.inl ⟨by rfl, ?_⟩) ⟨(Ps.out.at (i := 0) rfl), (Ps.out.at (i := 1) rfl), (Ps.out.at (i := 2) rfl), (Ps.out.at (i := 3) rfl), Px.out.c0, Px.out.c1, Py.out.c0, Py.out.c1, Pz.out.c0, Pz.out.c1, (Pd.out.at (i := 0) rfl), (Pd.out.at (i := 1) rfl), (Pd.out.at (i := 2) rfl), (Pd.out.at (i := 3) rfl), (Pp.out.at (i := 0) rfl), (Pp.out.at (i := 1) rfl), (Pp.out.at (i := 2) rfl), (Pp.out.at (i := 3) rfl), (Pa.out.at (i := 0) rfl), (Pa.out.at (i := 1) rfl), (Pa.out.at (i := 2) rfl), (Pa.out.at (i := 3) rfl), (Pb.out.at (i := 0) rfl), (Pb.out.at (i := 1) rfl), (Pb.out.at (i := 2) rfl), (Pb.out.at (i := 3) rfl)⟩ ?_
  · intro w hSw
    (try dsimp only at hSw)
    go_simp
  simp only [Act.put, List.setIfInBounds_toArray, List.set_cons_zero, List.set_cons_succ]
  refine wpAnyT_take (i := 28) (oi := { dst := some 140, op := Op.move (Operand.tmp 139), type := 4, pos := "outright.go:48", after := #[{ on := 27, ground := Ground.data }, { on := 25, ground := Ground.chain }], guard := none }) (v := (.bool false)) rfl (by kernel_rfl) (fun _ _ _ h => h) (Or.inl ⟨by rfl, ?_⟩) ⟨(Ps.out.at (i := 0) rfl), (Ps.out.at (i := 1) rfl), (Ps.out.at (i := 2) rfl), (Ps.out.at (i := 3) rfl), Px.out.c0, Px.out.c1, Py.out.c0, Py.out.c1, Pz.out.c0, Pz.out.c1, (Pd.out.at (i := 0) rfl), (Pd.out.at (i := 1) rfl), (Pd.out.at (i := 2) rfl), (Pd.out.at (i := 3) rfl), (Pp.out.at (i := 0) rfl), (Pp.out.at (i := 1) rfl), (Pp.out.at (i := 2) rfl), (Pp.out.at (i := 3) rfl), (Pa.out.at (i := 0) rfl), (Pa.out.at (i := 1) rfl), (Pa.out.at (i := 2) rfl), (Pa.out.at (i := 3) rfl), (Pb.out.at (i := 0) rfl), (Pb.out.at (i := 1) rfl), (Pb.out.at (i := 2) rfl), (Pb.out.at (i := 3) rfl)⟩ ?_
  · intro w hSw
    (try dsimp only at hSw)
    go_simp
  simp only [Act.put, List.setIfInBounds_toArray, List.set_cons_zero, List.set_cons_succ]
  refine wpAnyT_take (i := 29) (oi := { dst := some 141, op := Op.load 26 (Operand.tmp 11), type := 26, pos := "outright.go:48", after := #[{ on := 28, ground := Ground.guard }], guard := some (28, false) }) (v := (.agg #[(.bool npn), (.slice adpn xpn.length qpn), (.bool npd), (.slice adpd xpd.length qpd)])) rfl (by kernel_rfl) (fun _ _ _ h => h) (Or.inl ⟨by rfl, ?_⟩) ⟨(Ps.out.at (i := 0) rfl), (Ps.out.at (i := 1) rfl), (Ps.out.at (i := 2) rfl), (Ps.out.at (i := 3) rfl), Px.out.c0, Px.out.c1, Py.out.c0, Py.out.c1, Pz.out.c0, Pz.out.c1, (Pd.out.at (i := 0) rfl), (Pd.out.at (i := 1) rfl), (Pd.out.at (i := 2) rfl), (Pd.out.at (i := 3) rfl), (Pp.out.at (i := 0) rfl), (Pp.out.at (i := 1) rfl), (Pp.out.at (i := 2) rfl), (Pp.out.at (i := 3) rfl), (Pa.out.at (i := 0) rfl), (Pa.out.at (i := 1) rfl), (Pa.out.at (i := 2) rfl), (Pa.out.at (i := 3) rfl), (Pb.out.at (i := 0) rfl), (Pb.out.at (i := 1) rfl), (Pb.out.at (i := 2) rfl), (Pb.out.at (i := 3) rfl)⟩ ?_
  · intro w hSw
    (try dsimp only at hSw)
    go_simp
  simp only [Act.put, List.setIfInBounds_toArray, List.set_cons_zero, List.set_cons_succ]
  refine wpAnyT_take (i := 30) (oi := { dst := some 142, op := Op.fieldAddr 26 (Operand.tmp 2) 0, type := 0, pos := "outright.go:48", after := #[{ on := 28, ground := Ground.guard }], guard := some (28, false) }) (v := (.pointer (some ⟨w.heap.size, 0, none⟩))) rfl (by kernel_rfl) (fun _ _ _ h => h) (Or.inl ⟨by rfl, ?_⟩) ⟨(Ps.out.at (i := 0) rfl), (Ps.out.at (i := 1) rfl), (Ps.out.at (i := 2) rfl), (Ps.out.at (i := 3) rfl), Px.out.c0, Px.out.c1, Py.out.c0, Py.out.c1, Pz.out.c0, Pz.out.c1, (Pd.out.at (i := 0) rfl), (Pd.out.at (i := 1) rfl), (Pd.out.at (i := 2) rfl), (Pd.out.at (i := 3) rfl), (Pp.out.at (i := 0) rfl), (Pp.out.at (i := 1) rfl), (Pp.out.at (i := 2) rfl), (Pp.out.at (i := 3) rfl), (Pa.out.at (i := 0) rfl), (Pa.out.at (i := 1) rfl), (Pa.out.at (i := 2) rfl), (Pa.out.at (i := 3) rfl), (Pb.out.at (i := 0) rfl), (Pb.out.at (i := 1) rfl), (Pb.out.at (i := 2) rfl), (Pb.out.at (i := 3) rfl)⟩ ?_
  · intro w hSw
    (try dsimp only at hSw)
    go_simp
  simp only [Act.put, List.setIfInBounds_toArray, List.set_cons_zero, List.set_cons_succ]
  refine wpAnyT_take (i := 31) (oi := { dst := some 143, op := Op.load 24 (Operand.tmp 142), type := 24, pos := "outright.go:48", after := #[{ on := 30, ground := Ground.data }, { on := 28, ground := Ground.guard }], guard := some (28, false) }) (v := (.agg #[(.bool nan), (.slice adan xan.length can)])) rfl (by kernel_rfl) (fun _ _ _ h => h) (Or.inl ⟨by rfl, ?_⟩) ⟨(Ps.out.at (i := 0) rfl), (Ps.out.at (i := 1) rfl), (Ps.out.at (i := 2) rfl), (Ps.out.at (i := 3) rfl), Px.out.c0, Px.out.c1, Py.out.c0, Py.out.c1, Pz.out.c0, Pz.out.c1, (Pd.out.at (i := 0) rfl), (Pd.out.at (i := 1) rfl), (Pd.out.at (i := 2) rfl), (Pd.out.at (i := 3) rfl), (Pp.out.at (i := 0) rfl), (Pp.out.at (i := 1) rfl), (Pp.out.at (i := 2) rfl), (Pp.out.at (i := 3) rfl), (Pa.out.at (i := 0) rfl), (Pa.out.at (i := 1) rfl), (Pa.out.at (i := 2) rfl), (Pa.out.at (i := 3) rfl), (Pb.out.at (i := 0) rfl), (Pb.out.at (i := 1) rfl), (Pb.out.at (i := 2) rfl), (Pb.out.at (i := 3) rfl)⟩ ?_
  · intro w hSw
    (try dsimp only at hSw)
    go_simp
  simp only [Act.put, List.setIfInBounds_toArray, List.set_cons_zero, List.set_cons_succ]
  refine wpAnyT_take (i := 32) (oi := { dst := some 144, op := Op.fieldAddr 26 (Operand.tmp 3) 0, type := 0, pos := "outright.go:48", after := #[{ on := 28, ground := Ground.guard }], guard := some (28, false) }) (v := (.pointer (some ⟨w.heap.size + 1, 0, none⟩))) rfl (by kernel_rfl) (fun _ _ _ h => h) (Or.inl ⟨by rfl, ?_⟩) ⟨(Ps.out.at (i := 0) rfl), (Ps.out.at (i := 1) rfl), (Ps.out.at (i := 2) rfl), (Ps.out.at (i := 3) rfl), Px.out.c0, Px.out.c1, Py.out.c0, Py.out.c1, Pz.out.c0, Pz.out.c1, (Pd.out.at (i := 0) rfl), (Pd.out.at (i := 1) rfl), (Pd.out.at (i := 2) rfl), (Pd.out.at (i := 3) rfl), (Pp.out.at (i := 0) rfl), (Pp.out.at (i := 1) rfl), (Pp.out.at (i := 2) rfl), (Pp.out.at (i := 3) rfl), (Pa.out.at (i := 0) rfl), (Pa.out.at (i := 1) rfl), (Pa.out.at (i := 2) rfl), (Pa.out.at (i := 3) rfl), (Pb.out.at (i := 0) rfl), (Pb.out.at (i := 1) rfl), (Pb.out.at (i := 2) rfl), (Pb.out.at (i := 3) rfl)⟩ ?_
  · intro w hSw
    (try dsimp only at hSw)
    go_simp
  simp only [Act.put, List.setIfInBounds_toArray, List.set_cons_zero, List.set_cons_succ]
  refine wpAnyT_take (i := 33) (oi := { dst := some 145, op := Op.load 24 (Operand.tmp 144), type := 24, pos := "outright.go:48", after := #[{ on := 32, ground := Ground.data }, { on := 28, ground := Ground.guard }], guard := some (28, false) }) (v := (.agg #[(.bool nbn), (.slice adbn xbn.length cbn)])) rfl (by kernel_rfl) (fun _ _ _ h => h) (Or.inl ⟨by rfl, ?_⟩) ⟨(Ps.out.at (i := 0) rfl), (Ps.out.at (i := 1) rfl), (Ps.out.at (i := 2) rfl), (Ps.out.at (i := 3) rfl), Px.out.c0, Px.out.c1, Py.out.c0, Py.out.c1, Pz.out.c0, Pz.out.c1, (Pd.out.at (i := 0) rfl), (Pd.out.at (i := 1) rfl), (Pd.out.at (i := 2) rfl), (Pd.out.at (i := 3) rfl), (Pp.out.at (i := 0) rfl), (Pp.out.at (i := 1) rfl), (Pp.out.at (i := 2) rfl), (Pp.out.at (i := 3) rfl), (Pa.out.at (i := 0) rfl), (Pa.out.at (i := 1) rfl), (Pa.out.at (i := 2) rfl), (Pa.out.at (i := 3) rfl), (Pb.out.at (i := 0) rfl), (Pb.out.at (i := 1) rfl), (Pb.out.at (i := 2) rfl), (Pb.out.at (i := 3) rfl)⟩ ?_
  · intro w hSw
    (try dsimp only at hSw)
    go_simp
  simp only [Act.put, List.setIfInBounds_toArray, List.set_cons_zero, List.set_cons_succ]
  refine wpAnyT_take (i := 35) (oi := { dst := some 147, op := Op.load 24 (Operand.tmp 17), type := 24, pos := "outright.go:48", after := #[{ on := 28, ground := Ground.guard }], guard := some (28, false) }) (v := (.agg #[(.bool nz), (.slice adz xz.length qz)])) rfl (by kernel_rfl) (fun _ _ _ h => h) (Or.inl ⟨by rfl, ?_⟩) ⟨(Ps.out.at (i := 0) rfl), (Ps.out.at (i := 1) rfl), (Ps.out.at (i := 2) rfl), (Ps.out.at (i := 3) rfl), Px.out.c0, Px.out.c1, Py.out.c0, Py.out.c1, Pz.out.c0, Pz.out.c1, (Pd.out.at (i := 0) rfl), (Pd.out.at (i := 1) rfl), (Pd.out.at (i := 2) rfl), (Pd.out.at (i := 3) rfl), (Pp.out.at (i := 0) rfl), (Pp.out.at (i := 1) rfl), (Pp.out.at (i := 2) rfl), (Pp.out.at (i := 3) rfl), (Pa.out.at (i := 0) rfl), (Pa.out.at (i := 1) rfl), (Pa.out.at (i := 2) rfl), (Pa.out.at (i := 3) rfl), (Pb.out.at (i := 0) rfl), (Pb.out.at (i := 1) rfl), (Pb.out.at (i := 2) rfl), (Pb.out.at (i := 3) rfl)⟩ ?_
  · intro w hSw
    (try dsimp only at hSw)
    go_simp
  simp only [Act.put, List.setIfInBounds_toArray, List.set_cons_zero, List.set_cons_succ]
  refine wpAnyT_one (i := 34) (o := { dst := some 146, op := Op.call { callee := Callee.value (Operand.func 16), args := #[Operand.tmp 143, Operand.tmp 145], argTypes := #[24, 24] }, type := 24, pos := "outright.go:48", after := #[{ on := 31, ground := Ground.data }, { on := 33, ground := Ground.data }, { on := 28, ground := Ground.chain }, { on := 28, ground := Ground.guard }], guard := some (28, false) }) (by kernel_rfl) rfl (fun K hK => ?_)
  go_simp
  go_at_call 16
  refine (mul_z Zan.out Zbn.out (by decide)).mono ?_
  rintro e w57 ⟨r0, rfl, m0, b⟩
  obtain ⟨nh, xh, adh, qh, rfl, -, -, -, -, -⟩ := id m0
  replace Zan := hid (Zan.out.now b)
  replace Zad := hid (Zad.out.now b)
  replace Zbn := hid (Zbn.out.now b)
  replace Zbd := hid (Zbd.out.now b)
  replace Zon := hid (Zon.out.now b)
  replace Zod := hid (Zod.out.now b)
  replace Zsn := hid (Zsn.out.now b)
  replace Zsd := hid (Zsd.out.now b)
  replace Zdn := hid (Zdn.out.now b)
  replace Zdd := hid (Zdd.out.now b)
  replace Zpn := hid (Zpn.out.now b)
  replace Zpd := hid (Zpd.out.now b)
  replace Zqn := hid (Zqn.out.now b)
  replace Zqd := hid (Zqd.out.now b)
  replace Zx := hid (Zx.out.now b)
  replace Zy := hid (Zy.out.now b)
  replace Zz := hid (Zz.out.now b)
  replace Zu := hid (Zu.out.now b)
  replace Zv := hid (Zv.out.now b)
  replace Pa := hid (Pa.out.step b)
  replace Pb := hid (Pb.out.step b)
  replace Po := hid (Po.out.step b)
  replace Ps := hid (Ps.out.step b)
  replace Pd := hid (Pd.out.step b)
  replace Pp := hid (Pp.out.step b)
  replace Pq := hid (Pq.out.step b)
  replace Px := hid (Px.out.step b)
  replace Py := hid (Py.out.step b)
  replace Pz := hid (Pz.out.step b)
  replace G := hid (below_step G.out b)
  have lz58 := (show Below _ _ _ from b).size
  have Zh := hid m0
  clear b m0
  refine hK.out _ _ (fun _ => ⟨(Ps.out.at (i := 0) rfl), (Ps.out.at (i := 1) rfl), (Ps.out.at (i := 2) rfl), (Ps.out.at (i := 3) rfl), Px.out.c0, Px.out.c1, Py.out.c0, Py.out.c1, Pz.out.c0, Pz.out.c1, (Pd.out.at (i := 0) rfl), (Pd.out.at (i := 1) rfl), (Pd.out.at (i := 2) rfl), (Pd.out.at (i := 3) rfl), (Pp.out.at (i := 0) rfl), (Pp.out.at (i := 1) rfl), (Pp.out.at (i := 2) rfl), (Pp.out.at (i := 3) rfl), (Pa.out.at (i := 0) rfl), (Pa.out.at (i := 1) rfl), (Pa.out.at (i := 2) rfl), (Pa.out.at (i := 3) rfl), (Pb.out.at (i := 0) rfl), (Pb.out.at (i := 1) rfl), (Pb.out.at (i := 2) rfl), (Pb.out.at (i := 3) rfl)⟩) ?_
  clear hK
  refine wpAnyT_one (i := 36) (o := { dst := some 148, op := Op.call { callee := Callee.value (Operand.func 15), args := #[Operand.tmp 141, Operand.tmp 146, Operand.tmp 147], argTypes := #[26, 24, 24] }, type := 4, pos := "outright.go:48", after := #[{ on := 29, ground := Ground.data }, { on := 34, ground := Ground.data }, { on := 35, ground := Ground.data }, { on := 34, ground := Ground.chain }, { on := 28, ground := Ground.guard }], guard := some (28, false) }) (by kernel_rfl) rfl (fun K hK => ?_)
  go_simp
  go_at_call 15
  refine (names8 (k := 2097153) Zpn.out.zc Zpd.out.zc (Zh.out.zi.more (by decide)) (Zz.out.zi.more (by decide)) (by decide) CP.out).mono ?_
  rintro e w59 ⟨rfl, b⟩
  replace Zan := hid (Zan.out.now b)
  replace Zad := hid (Zad.out.now b)
  replace Zbn := hid (Zbn.out.now b)
  replace Zbd := hid (Zbd.out.now b)
  replace Zon := hid (Zon.out.now b)
  replace Zod := hid (Zod.out.now b)
  replace Zsn := hid (Zsn.out.now b)
  replace Zsd := hid (Zsd.out.now b)
  replace Zdn := hid (Zdn.out.now b)
  replace Zdd := hid (Zdd.out.now b)
  replace Zpn := hid (Zpn.out.now b)
  replace Zpd := hid (Zpd.out.now b)
  replace Zqn := hid (Zqn.out.now b)
  replace Zqd := hid (Zqd.out.now b)
  replace Zx := hid (Zx.out.now b)
  replace Zy := hid (Zy.out.now b)
  replace Zz := hid (Zz.out.now b)
  replace Zu := hid (Zu.out.now b)
  replace Zv := hid (Zv.out.now b)
  replace Zh := hid (Zh.out.now b)
  replace Pa := hid (Pa.out.step b)
  replace Pb := hid (Pb.out.step b)
  replace Po := hid (Po.out.step b)
  replace Ps := hid (Ps.out.step b)
  replace Pd := hid (Pd.out.step b)
  replace Pp := hid (Pp.out.step b)
  replace Pq := hid (Pq.out.step b)
  replace Px := hid (Px.out.step b)
  replace Py := hid (Py.out.step b)
  replace Pz := hid (Pz.out.step b)
  replace G := hid (below_step G.out b)
  have lz60 := (show Below _ _ _ from b).size
  clear b 
  refine hK.out _ _ (fun _ => ⟨(Ps.out.at (i := 0) rfl), (Ps.out.at (i := 1) rfl), (Ps.out.at (i := 2) rfl), (Ps.out.at (i := 3) rfl), Px.out.c0, Px.out.c1, Py.out.c0, Py.out.c1, Pz.out.c0, Pz.out.c1, (Pd.out.at (i := 0) rfl), (Pd.out.at (i := 1) rfl), (Pd.out.at (i := 2) rfl), (Pd.out.at (i := 3) rfl), (Pp.out.at (i := 0) rfl), (Pp.out.at (i := 1) rfl), (Pp.out.at (i := 2) rfl), (Pp.out.at (i := 3) rfl), (Pa.out.at (i := 0) rfl), (Pa.out.at (i := 1) rfl), (Pa.out.at (i := 2) rfl), (Pa.out.at (i := 3) rfl), (Pb.out.at (i := 0) rfl), (Pb.out.at (i := 1) rfl), (Pb.out.at (i := 2) rfl), (Pb.out.at (i := 3) rfl)⟩) ?_
  clear hK
  refine wpAnyT_take (i := 37) (oi := { dst := some 149, op := Op.unOp UnOp.not 4 (Operand.tmp 148), type := 4, pos := "outright.go:48", after := #[{ on := 36, ground := Ground.data }, { on := 28, ground := Ground.guard }], guard := some (28, false) }) (v := (.bool false)) rfl (by kernel_rfl) (fun _ _ _ h => h) (Or.inl ⟨by rfl, ?_⟩) ⟨(Ps.out.at (i := 0) rfl), (Ps.out.at (i := 1) rfl), (Ps.out.at (i := 2) rfl), (Ps.out.at (i := 3) rfl), Px.out.c0, Px.out.c1, Py.out.c0, Py.out.c1, Pz.out.c0, Pz.out.c1, (Pd.out.at (i := 0) rfl), (Pd.out.at (i := 1) rfl), (Pd.out.at (i := 2) rfl), (Pd.out.at (i := 3) rfl), (Pp.out.at (i := 0) rfl), (Pp.out.at (i := 1) rfl), (Pp.out.at (i := 2) rfl), (Pp.out.at (i := 3) rfl), (Pa.out.at (i := 0) rfl), (Pa.out.at (i := 1) rfl), (Pa.out.at (i := 2) rfl), (Pa.out.at (i := 3) rfl), (Pb.out.at (i := 0) rfl), (Pb.out.at (i := 1) rfl), (Pb.out.at (i := 2) rfl), (Pb.out.at (i := 3) rfl)⟩ ?_
  · intro w hSw
    (try dsimp only at hSw)
    go_simp
  simp only [Act.put, List.setIfInBounds_toArray, List.set_cons_zero, List.set_cons_succ]
  refine wpAnyT_one (i := 38) (o := { dst := some 150, op := Op.pick (Operand.tmp 140) (Operand.const (Value.bool true)) (Operand.tmp 149), type := 4, pos := "outright.go:48", after := #[{ on := 28, ground := Ground.data }, { on := 37, ground := Ground.data }], guard := none }) (by kernel_rfl) rfl (fun K hK => ?_)
  go_simp
  refine hK.out _ _ (fun h => absurd h (by decide)) ?_
  clear hK
  try simp only [Act.put]
  refine wpAnyT_done (by kernel_rfl) ?_ _
  have cb0 := (Pb.out.at (i := 0) rfl)
  have cb1 := (Pb.out.at (i := 1) rfl)
  have cb2 := (Pb.out.at (i := 2) rfl)
  have cb3 := (Pb.out.at (i := 3) rfl)
  go_wp2_with fail
  clear cb0 cb1 cb2 cb3
  refine (HS.out _ _ Zbn.out).mono ?_
  rintro e w61 ⟨rfl, b⟩
  replace Zan := hid (Zan.out.now b)
  replace Zad := hid (Zad.out.now b)
  replace Zbn := hid (Zbn.out.now b)
  replace Zbd := hid (Zbd.out.now b)
  replace Zon := hid (Zon.out.now b)
  replace Zod := hid (Zod.out.now b)
  replace Zsn := hid (Zsn.out.now b)
  replace Zsd := hid (Zsd.out.now b)
  replace Zdn := hid (Zdn.out.now b)
  replace Zdd := hid (Zdd.out.now b)
  replace Zpn := hid (Zpn.out.now b)
  replace Zpd := hid (Zpd.out.now b)
  replace Zqn := hid (Zqn.out.now b)
  replace Zqd := hid (Zqd.out.now b)
  replace Zx := hid (Zx.out.now b)
  replace Zy := hid (Zy.out.now b)
  replace Zz := hid (Zz.out.now b)
  replace Zu := hid (Zu.out.now b)
  replace Zv := hid (Zv.out.now b)
  replace Zh := hid (Zh.out.now b)
  replace Pa := hid (Pa.out.step b)
  replace Pb := hid (Pb.out.step b)
  replace Po := hid (Po.out.step b)
  replace Ps := hid (Ps.out.step b)
  replace Pd := hid (Pd.out.step b)
  replace Pp := hid (Pp.out.step b)
  replace Pq := hid (Pq.out.step b)
  replace Px := hid (Px.out.step b)
  replace Py := hid (Py.out.step b)
  replace Pz := hid (Pz.out.step b)
  replace G := hid (below_step G.out b)
  have lz62 := (show Below _ _ _ from b).size
  clear b 
  have cq0 := (Pq.out.at (i := 0) rfl)
  have cq1 := (Pq.out.at (i := 1) rfl)
  have cq2 := (Pq.out.at (i := 2) rfl)
  have cq3 := (Pq.out.at (i := 3) rfl)
  have cx0 := Px.out.c0
  have cx1 := Px.out.c1
  have cy0 := Py.out.c0
  have cy1 := Py.out.c1
  go_wp2_with fail
  clear cq0 cq1 cq2 cq3 cx0 cx1 cy0 cy1
  refine (names8 (k := 2097153) Zqn.out.zc Zqd.out.zc (Zx.out.zi.more (by decide)) (Zy.out.zi.more (by decide)) (by decide) CQ.out).mono ?_
  rintro e w63 ⟨rfl, b⟩
  replace Zan := hid (Zan.out.now b)
  replace Zad := hid (Zad.out.now b)
  replace Zbn := hid (Zbn.out.now b)
  replace Zbd := hid (Zbd.out.now b)
  replace Zon := hid (Zon.out.now b)
  replace Zod := hid (Zod.out.now b)
  replace Zsn := hid (Zsn.out.now b)
  replace Zsd := hid (Zsd.out.now b)
  replace Zdn := hid (Zdn.out.now b)
  replace Zdd := hid (Zdd.out.now b)
  replace Zpn := hid (Zpn.out.now b)
  replace Zpd := hid (Zpd.out.now b)
  replace Zqn := hid (Zqn.out.now b)
  replace Zqd := hid (Zqd.out.now b)
  replace Zx := hid (Zx.out.now b)
  replace Zy := hid (Zy.out.now b)
  replace Zz := hid (Zz.out.now b)
  replace Zu := hid (Zu.out.now b)
  replace Zv := hid (Zv.out.now b)
  replace Zh := hid (Zh.out.now b)
  replace Pa := hid (Pa.out.step b)
  replace Pb := hid (Pb.out.step b)
  replace Po := hid (Po.out.step b)
  replace Ps := hid (Ps.out.step b)
  replace Pd := hid (Pd.out.step b)
  replace Pp := hid (Pp.out.step b)
  replace Pq := hid (Pq.out.step b)
  replace Px := hid (Px.out.step b)
  replace Py := hid (Py.out.step b)
  replace Pz := hid (Pz.out.step b)
  replace G := hid (below_step G.out b)
  have lz64 := (show Below _ _ _ from b).size
  clear b 
  go_wp2
  go_ret
  exact ⟨rfl, G.out⟩

theorem fracLowest_any {w : World} {a0 a1 a2 a3 b0 b1 b2 b3 : Value} {AN AD BN BD : Int} (han : Zi w (.agg #[a0, a1]) AN 1048576) (had : Zi w (.agg #[a2, a3]) AD 1048576) (hbn : Zi w (.agg #[b0, b1]) BN 1048576) (hbd : Zi w (.agg #[b2, b3]) BD 1048576) :
    Calls Try.prog 3 #[.agg #[a0, a1, a2, a3], .agg #[b0, b1, b2, b3]] w fun e w' => e = .returned (.bool true) ∧ Below w.heap.size w w' := by
  by_cases hA : AD = 0
  · exact lowest_na han had hbn hbd hA
  by_cases hB : BD = 0
  · exact lowest_nb han had hbn hbd hA hB
  by_cases hN : BN = 0
  · exact lowest_zero han had hbn hbd hA hB hN
  · exact lowest_all han had hbn hbd hA hB hN
end Go.Proofs.Ytaoammmnpfbdfaa
