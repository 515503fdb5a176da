/-
  Keeps: the walk of NatKeeps.
-/
import Derived.Test.YtagfekcocdjhlaaDoorKeeps0
namespace Go.Proofs.YtagfekcocdjhlaaDoor
open Go.RowKit
set_option linter.unusedVariables false

set_option maxRecDepth 100000 in
set_option maxHeartbeats 25600000 in
theorem natKeeps_any {w : World} {va vb vc vd : Value} {xs ys us vs : List Int} (ha : Sl w.heap.size w va xs) (hb : Sl w.heap.size w vb ys) (hc : Sl w.heap.size w vc us) (hd : Sl w.heap.size w vd vs) (hT : Tab w)
    (la : xs.length ≤ 1048576) (lb : ys.length ≤ 1048576) (lc : us.length ≤ 1048576) (ld : vs.length ≤ 1048576) (kind kin2 : Int) {n n2 : Int} (hn0 : -9223372036854775808 ≤ n) (hn : n ≤ 9223372036854775807) (hm0 : -9223372036854775808 ≤ n2) (hm : n2 ≤ 9223372036854775807) :
    Calls Tryd.prog 3 #[.agg #[.int .i64 kind, va, vb, .int .i64 n], .agg #[.int .i64 kin2, vc, vd, .int .i64 n2]] w fun e w' => e = .returned (.bool true) ∧ Below w.heap.size w w' := by
  have HA := hid ha
  have HB := hid hb
  have HC := hid hc
  have HD := hid hd
  have HT := hid hT
  have WX := hid ha.1
  have WY := hid hb.1
  have WU := hid hc.1
  have WV := hid hd.1
  obtain ⟨aa, ca, rfl⟩ : ∃ aa ca, va = .slice aa xs.length ca := by obtain ⟨_, aa, ca, e, _⟩ := ha; exact ⟨aa, ca, e⟩
  obtain ⟨ab, cb, rfl⟩ : ∃ ab cb, vb = .slice ab ys.length cb := by obtain ⟨_, ab, cb, e, _⟩ := hb; exact ⟨ab, cb, e⟩
  obtain ⟨ac, cc, rfl⟩ : ∃ aa ca, vc = .slice aa us.length ca := by obtain ⟨_, aa, ca, e, _⟩ := hc; exact ⟨aa, ca, e⟩
  obtain ⟨ad, cd, rfl⟩ : ∃ ab cb, vd = .slice ab vs.length cb := by obtain ⟨_, ab, cb, e, _⟩ := hd; exact ⟨ab, cb, e⟩
  obtain ⟨m, em⟩ : ∃ m, xs.length = m := ⟨_, rfl⟩
  obtain ⟨l, el⟩ : ∃ l, ys.length = l := ⟨_, rfl⟩
  obtain ⟨m2, em2⟩ : ∃ m, us.length = m := ⟨_, rfl⟩
  obtain ⟨l2, el2⟩ : ∃ l, vs.length = l := ⟨_, rfl⟩
  rw [em] at HA la ⊢
  rw [el] at HB lb ⊢
  rw [em2] at HC lc ⊢
  rw [el2] at HD ld ⊢
  have HM := hid em
  have HL := hid el
  have HM2 := hid em2
  have HL2 := hid el2
  clear ha hb hc hd hT em el em2 el2
  have X0 := hid (Bx2.start w (.cells #[.int .i64 kind, .slice aa m ca, .slice ab l cb, .int .i64 n] 24) (.cells #[.int .i64 kin2, .slice ac m2 cc, .slice ad l2 cd, .int .i64 n2] 24))
  obtain ⟨w0, ew0⟩ : ∃ w0, w0 = (w.alloc (.cells #[.int .i64 kind, .slice aa m ca, .slice ab l cb, .int .i64 n] 24)).alloc (.cells #[.int .i64 kin2, .slice ac m2 cc, .slice ad l2 cd, .int .i64 n2] 24) := ⟨_, rfl⟩
  rw [← ew0] at X0
  have EW0 := hid ew0
  clear ew0
  go_enter Tryd.func3, Tryd.ntmps3
  go_wp2_with fail
  rw [← EW0.out]
  refine (awake_any _).mono ?_
  rintro e w1 ⟨rfl, kk⟩
  have X1 := hid (X0.out.step kk)
  have HTOP : Hid (w.heap.size + 2 ≤ w1.heap.size) := by unfold Hid; have := X1.out.lt; omega
  clear X0 kk EW0
  have o0 := X1.out.cell 0
  have p0 := X1.out.cell' 0
  have o1 := X1.out.cell 1
  have p1 := X1.out.cell' 1
  have o2 := X1.out.cell 2
  have p2 := X1.out.cell' 2
  have o3 := X1.out.cell 3
  have p3 := X1.out.cell' 3
  simp only [List.getElem?_toArray, List.getElem?_cons_succ, List.getElem?_cons_zero] at o0 o1 o2 o3 p0 p1 p2 p3
  go_wp2_with fail
  refine (roomy_any (HA.out.now X1.out.1) (by rw [HM.out]; omega)).mono ?_
  rintro e w2 ⟨rfl, rr, kk⟩
  rw [HM.out]
  have X2 := hid (X1.out.step kk)
  clear X1 o0 o1 o2 o3 p0 p1 p2 p3
  have RA : Hid (Rm w2 w1.heap.size xs) := rr
  have ORA : Hid (w.heap.size + 2 ≤ w1.heap.size) := HTOP
  have HLT : Hid (w1.heap.size + 1 ≤ w2.heap.size) := by unfold Hid; exact RA.out.lt
  clear rr kk HTOP
  generalize w1.heap.size = ga at *
  have HTOP := HLT
  clear HLT
  have o0 := X2.out.cell 0
  have p0 := X2.out.cell' 0
  have o1 := X2.out.cell 1
  have p1 := X2.out.cell' 1
  have o2 := X2.out.cell 2
  have p2 := X2.out.cell' 2
  have o3 := X2.out.cell 3
  have p3 := X2.out.cell' 3
  simp only [List.getElem?_toArray, List.getElem?_cons_succ, List.getElem?_cons_zero] at o0 o1 o2 o3 p0 p1 p2 p3
  go_wp2_with fail
  refine (roomy_any (HB.out.now X2.out.1) (by rw [HL.out]; omega)).mono ?_
  rintro e w3 ⟨rfl, rr, kk⟩
  rw [HL.out]
  have X3 := hid (X2.out.step kk)
  have RA' := hid (RA.out.step kk)
  clear RA
  have RA := RA'
  clear RA'
  clear X2 o0 o1 o2 o3 p0 p1 p2 p3
  have RB : Hid (Rm w3 w2.heap.size ys) := rr
  have ORB : Hid (ga + 1 ≤ w2.heap.size) := HTOP
  have HLT : Hid (w2.heap.size + 1 ≤ w3.heap.size) := by unfold Hid; exact RB.out.lt
  clear rr kk HTOP
  generalize w2.heap.size = gb at *
  have HTOP := HLT
  clear HLT
  have o0 := X3.out.cell 0
  have p0 := X3.out.cell' 0
  have o1 := X3.out.cell 1
  have p1 := X3.out.cell' 1
  have o2 := X3.out.cell 2
  have p2 := X3.out.cell' 2
  have o3 := X3.out.cell 3
  have p3 := X3.out.cell' 3
  simp only [List.getElem?_toArray, List.getElem?_cons_succ, List.getElem?_cons_zero] at o0 o1 o2 o3 p0 p1 p2 p3
  go_wp2_with fail
  refine (roomy_any (HC.out.now X3.out.1) (by rw [HM2.out]; omega)).mono ?_
  rintro e w4 ⟨rfl, rr, kk⟩
  rw [HM2.out]
  have X4 := hid (X3.out.step kk)
  have RA' := hid (RA.out.step kk)
  clear RA
  have RA := RA'
  clear RA'
  have RB' := hid (RB.out.step kk)
  clear RB
  have RB := RB'
  clear RB'
  clear X3 o0 o1 o2 o3 p0 p1 p2 p3
  have RC : Hid (Rm w4 w3.heap.size us) := rr
  have ORC : Hid (gb + 1 ≤ w3.heap.size) := HTOP
  have HLT : Hid (w3.heap.size + 1 ≤ w4.heap.size) := by unfold Hid; exact RC.out.lt
  clear rr kk HTOP
  generalize w3.heap.size = gc at *
  have HTOP := HLT
  clear HLT
  have o0 := X4.out.cell 0
  have p0 := X4.out.cell' 0
  have o1 := X4.out.cell 1
  have p1 := X4.out.cell' 1
  have o2 := X4.out.cell 2
  have p2 := X4.out.cell' 2
  have o3 := X4.out.cell 3
  have p3 := X4.out.cell' 3
  simp only [List.getElem?_toArray, List.getElem?_cons_succ, List.getElem?_cons_zero] at o0 o1 o2 o3 p0 p1 p2 p3
  go_wp2_with fail
  refine (roomy_any (HD.out.now X4.out.1) (by rw [HL2.out]; omega)).mono ?_
  rintro e w5 ⟨rfl, rr, kk⟩
  rw [HL2.out]
  have X5 := hid (X4.out.step kk)
  have RA' := hid (RA.out.step kk)
  clear RA
  have RA := RA'
  clear RA'
  have RB' := hid (RB.out.step kk)
  clear RB
  have RB := RB'
  clear RB'
  have RC' := hid (RC.out.step kk)
  clear RC
  have RC := RC'
  clear RC'
  clear X4 o0 o1 o2 o3 p0 p1 p2 p3
  have RD : Hid (Rm w5 w4.heap.size vs) := rr
  have ORD : Hid (gc + 1 ≤ w4.heap.size) := HTOP
  have HLT : Hid (w4.heap.size + 1 ≤ w5.heap.size) := by unfold Hid; exact RD.out.lt
  clear rr kk HTOP
  generalize w4.heap.size = gd at *
  have HTOP := HLT
  clear HLT
  have o0 := X5.out.cell 0
  have p0 := X5.out.cell' 0
  have o1 := X5.out.cell 1
  have p1 := X5.out.cell' 1
  have o2 := X5.out.cell 2
  have p2 := X5.out.cell' 2
  have o3 := X5.out.cell 3
  have p3 := X5.out.cell' 3
  simp only [List.getElem?_toArray, List.getElem?_cons_succ, List.getElem?_cons_zero] at o0 o1 o2 o3 p0 p1 p2 p3
  go_wp2_with fail
  refine (wanted_own (HA.out.now X5.out.1) (HB.out.now X5.out.1) (by rw [HM.out]; omega) (by rw [HL.out]; omega) kind hn).mono ?_
  rintro e w6 ⟨W, vw1, rfl, ow1, cw1, hw1, kk⟩
  have CW := hid cw1
  have VW := hid hw1
  have LW := hid ow1.2
  obtain ⟨bw1, eb⟩ : ∃ b, w5.heap.size = b := ⟨_, rfl⟩
  obtain ⟨cw1', ec⟩ : ∃ c, w6.heap.size = c := ⟨_, rfl⟩
  have PW : Hid (Pl bw1 cw1' w6 vw1 W) := by unfold Hid; rw [eb] at ow1; exact Pl.of ow1 ec
  have OW : Hid (gd + 1 ≤ bw1 ∧ bw1 ≤ cw1') := by unfold Hid; have h1 := HTOP.out; have h2 := kk.size; omega
  have X6 := hid (X5.out.step kk)
  have RA' := hid (RA.out.step kk)
  clear RA
  have RA := RA'
  clear RA'
  have RB' := hid (RB.out.step kk)
  clear RB
  have RB := RB'
  clear RB'
  have RC' := hid (RC.out.step kk)
  clear RC
  have RC := RC'
  clear RC'
  have RD' := hid (RD.out.step kk)
  clear RD
  have RD := RD'
  clear RD'
  clear X5 o0 o1 o2 o3 p0 p1 p2 p3
  have HTOP2 : Hid (cw1' ≤ w6.heap.size) := by unfold Hid; omega
  clear HTOP eb ec kk ow1 cw1 hw1
  have HTOP := HTOP2
  clear HTOP2
  obtain ⟨aw1, qw1, ev⟩ := PW.out.form
  subst ev
  have o0 := X6.out.cell 0
  have p0 := X6.out.cell' 0
  have o1 := X6.out.cell 1
  have p1 := X6.out.cell' 1
  have o2 := X6.out.cell 2
  have p2 := X6.out.cell' 2
  have o3 := X6.out.cell 3
  have p3 := X6.out.cell' 3
  simp only [List.getElem?_toArray, List.getElem?_cons_succ, List.getElem?_cons_zero] at o0 o1 o2 o3 p0 p1 p2 p3
  go_wp2_with fail
  refine (wanted_own (HC.out.now X6.out.1) (HD.out.now X6.out.1) (by rw [HM2.out]; omega) (by rw [HL2.out]; omega) kin2 hm).mono ?_
  rintro e w7 ⟨Q, vq1, rfl, oq1, cq1, hq1, kk⟩
  have CQ := hid cq1
  have VQ := hid hq1
  have LQ := hid oq1.2
  obtain ⟨bq1, eb⟩ : ∃ b, w6.heap.size = b := ⟨_, rfl⟩
  obtain ⟨cq1', ec⟩ : ∃ c, w7.heap.size = c := ⟨_, rfl⟩
  have PQ : Hid (Pl bq1 cq1' w7 vq1 Q) := by unfold Hid; rw [eb] at oq1; exact Pl.of oq1 ec
  have OQ : Hid (cw1' ≤ bq1 ∧ bq1 ≤ cq1') := by unfold Hid; have h1 := HTOP.out; have h2 := kk.size; omega
  have X7 := hid (X6.out.step kk)
  have RA' := hid (RA.out.step kk)
  clear RA
  have RA := RA'
  clear RA'
  have RB' := hid (RB.out.step kk)
  clear RB
  have RB := RB'
  clear RB'
  have RC' := hid (RC.out.step kk)
  clear RC
  have RC := RC'
  clear RC'
  have RD' := hid (RD.out.step kk)
  clear RD
  have RD := RD'
  clear RD'
  have PW' := hid (PW.out.step kk)
  clear PW
  have PW := PW'
  clear PW'
  clear X6 o0 o1 o2 o3 p0 p1 p2 p3
  have HTOP2 : Hid (cq1' ≤ w7.heap.size) := by unfold Hid; omega
  clear HTOP eb ec kk oq1 cq1 hq1
  have HTOP := HTOP2
  clear HTOP2
  obtain ⟨aq1, qq1, ev⟩ := PQ.out.form
  subst ev
  have o0 := X7.out.cell 0
  have p0 := X7.out.cell' 0
  have o1 := X7.out.cell 1
  have p1 := X7.out.cell' 1
  have o2 := X7.out.cell 2
  have p2 := X7.out.cell' 2
  have o3 := X7.out.cell 3
  have p3 := X7.out.cell' 3
  simp only [List.getElem?_toArray, List.getElem?_cons_succ, List.getElem?_cons_zero] at o0 o1 o2 o3 p0 p1 p2 p3
  go_wp2_with fail
  refine (wanted_own (HA.out.now X7.out.1) (HA.out.now X7.out.1) (by rw [HM.out]; omega) (by rw [HM.out]; omega) kind hn).mono ?_
  rintro e w8 ⟨U, vu1, rfl, ou1, cu1, hu1, kk⟩
  have CU := hid cu1
  have VU := hid hu1
  have LU := hid ou1.2
  obtain ⟨bu1, eb⟩ : ∃ b, w7.heap.size = b := ⟨_, rfl⟩
  obtain ⟨cu1', ec⟩ : ∃ c, w8.heap.size = c := ⟨_, rfl⟩
  have PU : Hid (Pl bu1 cu1' w8 vu1 U) := by unfold Hid; rw [eb] at ou1; exact Pl.of ou1 ec
  have OU : Hid (cq1' ≤ bu1 ∧ bu1 ≤ cu1') := by unfold Hid; have h1 := HTOP.out; have h2 := kk.size; omega
  have X8 := hid (X7.out.step kk)
  have RA' := hid (RA.out.step kk)
  clear RA
  have RA := RA'
  clear RA'
  have RB' := hid (RB.out.step kk)
  clear RB
  have RB := RB'
  clear RB'
  have RC' := hid (RC.out.step kk)
  clear RC
  have RC := RC'
  clear RC'
  have RD' := hid (RD.out.step kk)
  clear RD
  have RD := RD'
  clear RD'
  have PW' := hid (PW.out.step kk)
  clear PW
  have PW := PW'
  clear PW'
  have PQ' := hid (PQ.out.step kk)
  clear PQ
  have PQ := PQ'
  clear PQ'
  clear X7 o0 o1 o2 o3 p0 p1 p2 p3
  have HTOP2 : Hid (cu1' ≤ w8.heap.size) := by unfold Hid; omega
  clear HTOP eb ec kk ou1 cu1 hu1
  have HTOP := HTOP2
  clear HTOP2
  obtain ⟨au1, qu1, ev⟩ := PU.out.form
  subst ev
  have o0 := X8.out.cell 0
  have p0 := X8.out.cell' 0
  have o1 := X8.out.cell 1
  have p1 := X8.out.cell' 1
  have o2 := X8.out.cell 2
  have p2 := X8.out.cell' 2
  have o3 := X8.out.cell 3
  have p3 := X8.out.cell' 3
  simp only [List.getElem?_toArray, List.getElem?_cons_succ, List.getElem?_cons_zero] at o0 o1 o2 o3 p0 p1 p2 p3
  go_wp2_with fail
  refine (list_own (RA.out.part WX.out HM.out (by omega)) (RB.out.part WY.out HL.out (by omega)) (by rw [HM.out]; omega) (by rw [HL.out]; omega) kind hn).mono ?_
  rintro e w9 ⟨X, vx1, rfl, ox1, cx1, hx1, kk⟩
  have CX := hid cx1
  have VX := hid hx1
  have LX := hid ox1.2
  obtain ⟨bx1, eb⟩ : ∃ b, w8.heap.size = b := ⟨_, rfl⟩
  obtain ⟨cx1', ec⟩ : ∃ c, w9.heap.size = c := ⟨_, rfl⟩
  have PX : Hid (Pl bx1 cx1' w9 vx1 X) := by unfold Hid; rw [eb] at ox1; exact Pl.of ox1 ec
  have OX : Hid (cu1' ≤ bx1 ∧ bx1 ≤ cx1') := by unfold Hid; have h1 := HTOP.out; have h2 := kk.size; omega
  have X9 := hid (X8.out.step kk)
  have RA' := hid (RA.out.step kk)
  clear RA
  have RA := RA'
  clear RA'
  have RB' := hid (RB.out.step kk)
  clear RB
  have RB := RB'
  clear RB'
  have RC' := hid (RC.out.step kk)
  clear RC
  have RC := RC'
  clear RC'
  have RD' := hid (RD.out.step kk)
  clear RD
  have RD := RD'
  clear RD'
  have PW' := hid (PW.out.step kk)
  clear PW
  have PW := PW'
  clear PW'
  have PQ' := hid (PQ.out.step kk)
  clear PQ
  have PQ := PQ'
  clear PQ'
  have PU' := hid (PU.out.step kk)
  clear PU
  have PU := PU'
  clear PU'
  clear X8 o0 o1 o2 o3 p0 p1 p2 p3
  have HTOP2 : Hid (cx1' ≤ w9.heap.size) := by unfold Hid; omega
  clear HTOP eb ec kk ox1 cx1 hx1
  have HTOP := HTOP2
  clear HTOP2
  obtain ⟨ax1, qx1, ev⟩ := PX.out.form
  subst ev
  have o0 := X9.out.cell 0
  have p0 := X9.out.cell' 0
  have o1 := X9.out.cell 1
  have p1 := X9.out.cell' 1
  have o2 := X9.out.cell 2
  have p2 := X9.out.cell' 2
  have o3 := X9.out.cell 3
  have p3 := X9.out.cell' 3
  simp only [List.getElem?_toArray, List.getElem?_cons_succ, List.getElem?_cons_zero] at o0 o1 o2 o3 p0 p1 p2 p3
  go_wp2_with fail
  refine (list_own (RA.out.part WX.out HM.out (by omega)) (RB.out.part WY.out HL.out (by omega)) (by rw [HM.out]; omega) (by rw [HL.out]; omega) kind hn).mono ?_
  rintro e w10 ⟨Y, vy1, rfl, oy1, cy1, hy1, kk⟩
  have CY := hid cy1
  have VY := hid hy1
  have LY := hid oy1.2
  obtain ⟨by1, eb⟩ : ∃ b, w9.heap.size = b := ⟨_, rfl⟩
  obtain ⟨cy1', ec⟩ : ∃ c, w10.heap.size = c := ⟨_, rfl⟩
  have PY : Hid (Pl by1 cy1' w10 vy1 Y) := by unfold Hid; rw [eb] at oy1; exact Pl.of oy1 ec
  have OY : Hid (cx1' ≤ by1 ∧ by1 ≤ cy1') := by unfold Hid; have h1 := HTOP.out; have h2 := kk.size; omega
  have X10 := hid (X9.out.step kk)
  have RA' := hid (RA.out.step kk)
  clear RA
  have RA := RA'
  clear RA'
  have RB' := hid (RB.out.step kk)
  clear RB
  have RB := RB'
  clear RB'
  have RC' := hid (RC.out.step kk)
  clear RC
  have RC := RC'
  clear RC'
  have RD' := hid (RD.out.step kk)
  clear RD
  have RD := RD'
  clear RD'
  have PW' := hid (PW.out.step kk)
  clear PW
  have PW := PW'
  clear PW'
  have PQ' := hid (PQ.out.step kk)
  clear PQ
  have PQ := PQ'
  clear PQ'
  have PU' := hid (PU.out.step kk)
  clear PU
  have PU := PU'
  clear PU'
  have PX' := hid (PX.out.step kk)
  clear PX
  have PX := PX'
  clear PX'
  clear X9 o0 o1 o2 o3 p0 p1 p2 p3
  have HTOP2 : Hid (cy1' ≤ w10.heap.size) := by unfold Hid; omega
  clear HTOP eb ec kk oy1 cy1 hy1
  have HTOP := HTOP2
  clear HTOP2
  obtain ⟨ay1, qy1, ev⟩ := PY.out.form
  subst ev
  have o0 := X10.out.cell 0
  have p0 := X10.out.cell' 0
  have o1 := X10.out.cell 1
  have p1 := X10.out.cell' 1
  have o2 := X10.out.cell 2
  have p2 := X10.out.cell' 2
  have o3 := X10.out.cell 3
  have p3 := X10.out.cell' 3
  simp only [List.getElem?_toArray, List.getElem?_cons_succ, List.getElem?_cons_zero] at o0 o1 o2 o3 p0 p1 p2 p3
  go_wp2_with fail
  refine (list_own (RC.out.part WU.out HM2.out (by omega)) (RD.out.part WV.out HL2.out (by omega)) (by rw [HM2.out]; omega) (by rw [HL2.out]; omega) kin2 hm).mono ?_
  rintro e w11 ⟨Z, vz1, rfl, oz1, cz1, hz1, kk⟩
  have CZ := hid cz1
  have VZ := hid hz1
  have LZ := hid oz1.2
  obtain ⟨bz1, eb⟩ : ∃ b, w10.heap.size = b := ⟨_, rfl⟩
  obtain ⟨cz1', ec⟩ : ∃ c, w11.heap.size = c := ⟨_, rfl⟩
  have PZ : Hid (Pl bz1 cz1' w11 vz1 Z) := by unfold Hid; rw [eb] at oz1; exact Pl.of oz1 ec
  have OZ : Hid (cy1' ≤ bz1 ∧ bz1 ≤ cz1') := by unfold Hid; have h1 := HTOP.out; have h2 := kk.size; omega
  have X11 := hid (X10.out.step kk)
  have RA' := hid (RA.out.step kk)
  clear RA
  have RA := RA'
  clear RA'
  have RB' := hid (RB.out.step kk)
  clear RB
  have RB := RB'
  clear RB'
  have RC' := hid (RC.out.step kk)
  clear RC
  have RC := RC'
  clear RC'
  have RD' := hid (RD.out.step kk)
  clear RD
  have RD := RD'
  clear RD'
  have PW' := hid (PW.out.step kk)
  clear PW
  have PW := PW'
  clear PW'
  have PQ' := hid (PQ.out.step kk)
  clear PQ
  have PQ := PQ'
  clear PQ'
  have PU' := hid (PU.out.step kk)
  clear PU
  have PU := PU'
  clear PU'
  have PX' := hid (PX.out.step kk)
  clear PX
  have PX := PX'
  clear PX'
  have PY' := hid (PY.out.step kk)
  clear PY
  have PY := PY'
  clear PY'
  clear X10 o0 o1 o2 o3 p0 p1 p2 p3
  have HTOP2 : Hid (cz1' ≤ w11.heap.size) := by unfold Hid; omega
  clear HTOP eb ec kk oz1 cz1 hz1
  have HTOP := HTOP2
  clear HTOP2
  obtain ⟨az1, qz1, ev⟩ := PZ.out.form
  subst ev
  have o0 := X11.out.cell 0
  have p0 := X11.out.cell' 0
  have o1 := X11.out.cell 1
  have p1 := X11.out.cell' 1
  have o2 := X11.out.cell 2
  have p2 := X11.out.cell' 2
  have o3 := X11.out.cell 3
  have p3 := X11.out.cell' 3
  simp only [List.getElem?_toArray, List.getElem?_cons_succ, List.getElem?_cons_zero] at o0 o1 o2 o3 p0 p1 p2 p3
  go_wp2_with fail
  refine (list_own (RA.out.part WX.out HM.out (by omega)) (RA.out.part WX.out HM.out (by omega)) (by rw [HM.out]; omega) (by rw [HM.out]; omega) kind hn).mono ?_
  rintro e w12 ⟨T, vt1, rfl, ot1, ct1, ht1, kk⟩
  have CT := hid ct1
  have VT := hid ht1
  have LT := hid ot1.2
  obtain ⟨bt1, eb⟩ : ∃ b, w11.heap.size = b := ⟨_, rfl⟩
  obtain ⟨ct1', ec⟩ : ∃ c, w12.heap.size = c := ⟨_, rfl⟩
  have PT : Hid (Pl bt1 ct1' w12 vt1 T) := by unfold Hid; rw [eb] at ot1; exact Pl.of ot1 ec
  have OT : Hid (cz1' ≤ bt1 ∧ bt1 ≤ ct1') := by unfold Hid; have h1 := HTOP.out; have h2 := kk.size; omega
  have X12 := hid (X11.out.step kk)
  have RA' := hid (RA.out.step kk)
  clear RA
  have RA := RA'
  clear RA'
  have RB' := hid (RB.out.step kk)
  clear RB
  have RB := RB'
  clear RB'
  have RC' := hid (RC.out.step kk)
  clear RC
  have RC := RC'
  clear RC'
  have RD' := hid (RD.out.step kk)
  clear RD
  have RD := RD'
  clear RD'
  have PW' := hid (PW.out.step kk)
  clear PW
  have PW := PW'
  clear PW'
  have PQ' := hid (PQ.out.step kk)
  clear PQ
  have PQ := PQ'
  clear PQ'
  have PU' := hid (PU.out.step kk)
  clear PU
  have PU := PU'
  clear PU'
  have PX' := hid (PX.out.step kk)
  clear PX
  have PX := PX'
  clear PX'
  have PY' := hid (PY.out.step kk)
  clear PY
  have PY := PY'
  clear PY'
  have PZ' := hid (PZ.out.step kk)
  clear PZ
  have PZ := PZ'
  clear PZ'
  clear X11 o0 o1 o2 o3 p0 p1 p2 p3
  have HTOP2 : Hid (ct1' ≤ w12.heap.size) := by unfold Hid; omega
  clear HTOP eb ec kk ot1 ct1 ht1
  have HTOP := HTOP2
  clear HTOP2
  obtain ⟨at1, qt1, ev⟩ := PT.out.form
  subst ev
  have o0 := X12.out.cell 0
  have p0 := X12.out.cell' 0
  have o1 := X12.out.cell 1
  have p1 := X12.out.cell' 1
  have o2 := X12.out.cell 2
  have p2 := X12.out.cell' 2
  have o3 := X12.out.cell 3
  have p3 := X12.out.cell' 3
  simp only [List.getElem?_toArray, List.getElem?_cons_succ, List.getElem?_cons_zero] at o0 o1 o2 o3 p0 p1 p2 p3
  go_wp2_with fail
  refine (list_own (RA.out.part WX.out HM.out (by omega)) (RB.out.part WY.out HL.out (by omega)) (by rw [HM.out]; omega) (by rw [HL.out]; omega) kind hn).mono ?_
  rintro e w13 ⟨S, vs1, rfl, os1, cs1, hs1, kk⟩
  have CS := hid cs1
  have VS := hid hs1
  have LS := hid os1.2
  obtain ⟨bs1, eb⟩ : ∃ b, w12.heap.size = b := ⟨_, rfl⟩
  obtain ⟨cs1', ec⟩ : ∃ c, w13.heap.size = c := ⟨_, rfl⟩
  have PS : Hid (Pl bs1 cs1' w13 vs1 S) := by unfold Hid; rw [eb] at os1; exact Pl.of os1 ec
  have OS : Hid (ct1' ≤ bs1 ∧ bs1 ≤ cs1') := by unfold Hid; have h1 := HTOP.out; have h2 := kk.size; omega
  have X13 := hid (X12.out.step kk)
  have RA' := hid (RA.out.step kk)
  clear RA
  have RA := RA'
  clear RA'
  have RB' := hid (RB.out.step kk)
  clear RB
  have RB := RB'
  clear RB'
  have RC' := hid (RC.out.step kk)
  clear RC
  have RC := RC'
  clear RC'
  have RD' := hid (RD.out.step kk)
  clear RD
  have RD := RD'
  clear RD'
  have PW' := hid (PW.out.step kk)
  clear PW
  have PW := PW'
  clear PW'
  have PQ' := hid (PQ.out.step kk)
  clear PQ
  have PQ := PQ'
  clear PQ'
  have PU' := hid (PU.out.step kk)
  clear PU
  have PU := PU'
  clear PU'
  have PX' := hid (PX.out.step kk)
  clear PX
  have PX := PX'
  clear PX'
  have PY' := hid (PY.out.step kk)
  clear PY
  have PY := PY'
  clear PY'
  have PZ' := hid (PZ.out.step kk)
  clear PZ
  have PZ := PZ'
  clear PZ'
  have PT' := hid (PT.out.step kk)
  clear PT
  have PT := PT'
  clear PT'
  clear X12 o0 o1 o2 o3 p0 p1 p2 p3
  have HTOP2 : Hid (cs1' ≤ w13.heap.size) := by unfold Hid; omega
  clear HTOP eb ec kk os1 cs1 hs1
  have HTOP := HTOP2
  clear HTOP2
  obtain ⟨as1, qs1, ev⟩ := PS.out.form
  subst ev
  have o0 := X13.out.cell 0
  have p0 := X13.out.cell' 0
  have o1 := X13.out.cell 1
  have p1 := X13.out.cell' 1
  have o2 := X13.out.cell 2
  have p2 := X13.out.cell' 2
  have o3 := X13.out.cell 3
  have p3 := X13.out.cell' 3
  simp only [List.getElem?_toArray, List.getElem?_cons_succ, List.getElem?_cons_zero] at o0 o1 o2 o3 p0 p1 p2 p3
  go_wp2_with fail
  refine (same_yes PX.out.sl PW.out.sl (canon_vn CX.out CW.out (by rw [VX.out, VW.out]))).mono ?_
  rintro e w14 ⟨rfl, kk⟩
  have HTOP2 : Hid (cs1' ≤ w14.heap.size) := by unfold Hid; exact Nat.le_trans HTOP.out kk.size
  clear HTOP
  have HTOP := HTOP2
  clear HTOP2
  have X14 := hid (X13.out.step kk)
  have RA' := hid (RA.out.step kk)
  clear RA
  have RA := RA'
  clear RA'
  have RB' := hid (RB.out.step kk)
  clear RB
  have RB := RB'
  clear RB'
  have RC' := hid (RC.out.step kk)
  clear RC
  have RC := RC'
  clear RC'
  have RD' := hid (RD.out.step kk)
  clear RD
  have RD := RD'
  clear RD'
  have PW' := hid (PW.out.step kk)
  clear PW
  have PW := PW'
  clear PW'
  have PQ' := hid (PQ.out.step kk)
  clear PQ
  have PQ := PQ'
  clear PQ'
  have PU' := hid (PU.out.step kk)
  clear PU
  have PU := PU'
  clear PU'
  have PX' := hid (PX.out.step kk)
  clear PX
  have PX := PX'
  clear PX'
  have PY' := hid (PY.out.step kk)
  clear PY
  have PY := PY'
  clear PY'
  have PZ' := hid (PZ.out.step kk)
  clear PZ
  have PZ := PZ'
  clear PZ'
  have PT' := hid (PT.out.step kk)
  clear PT
  have PT := PT'
  clear PT'
  have PS' := hid (PS.out.step kk)
  clear PS
  have PS := PS'
  clear PS'
  clear X13 o0 o1 o2 o3 p0 p1 p2 p3
  clear kk
  have o0 := X14.out.cell 0
  have p0 := X14.out.cell' 0
  have o1 := X14.out.cell 1
  have p1 := X14.out.cell' 1
  have o2 := X14.out.cell 2
  have p2 := X14.out.cell' 2
  have o3 := X14.out.cell 3
  have p3 := X14.out.cell' 3
  simp only [List.getElem?_toArray, List.getElem?_cons_succ, List.getElem?_cons_zero] at o0 o1 o2 o3 p0 p1 p2 p3
  go_wp2_with fail
  refine (same_yes PY.out.sl PW.out.sl (canon_vn CY.out CW.out (by rw [VY.out, VW.out]))).mono ?_
  rintro e w15 ⟨rfl, kk⟩
  have HTOP2 : Hid (cs1' ≤ w15.heap.size) := by unfold Hid; exact Nat.le_trans HTOP.out kk.size
  clear HTOP
  have HTOP := HTOP2
  clear HTOP2
  have X15 := hid (X14.out.step kk)
  have RA' := hid (RA.out.step kk)
  clear RA
  have RA := RA'
  clear RA'
  have RB' := hid (RB.out.step kk)
  clear RB
  have RB := RB'
  clear RB'
  have RC' := hid (RC.out.step kk)
  clear RC
  have RC := RC'
  clear RC'
  have RD' := hid (RD.out.step kk)
  clear RD
  have RD := RD'
  clear RD'
  have PW' := hid (PW.out.step kk)
  clear PW
  have PW := PW'
  clear PW'
  have PQ' := hid (PQ.out.step kk)
  clear PQ
  have PQ := PQ'
  clear PQ'
  have PU' := hid (PU.out.step kk)
  clear PU
  have PU := PU'
  clear PU'
  have PX' := hid (PX.out.step kk)
  clear PX
  have PX := PX'
  clear PX'
  have PY' := hid (PY.out.step kk)
  clear PY
  have PY := PY'
  clear PY'
  have PZ' := hid (PZ.out.step kk)
  clear PZ
  have PZ := PZ'
  clear PZ'
  have PT' := hid (PT.out.step kk)
  clear PT
  have PT := PT'
  clear PT'
  have PS' := hid (PS.out.step kk)
  clear PS
  have PS := PS'
  clear PS'
  clear X14 o0 o1 o2 o3 p0 p1 p2 p3
  clear kk
  have o0 := X15.out.cell 0
  have p0 := X15.out.cell' 0
  have o1 := X15.out.cell 1
  have p1 := X15.out.cell' 1
  have o2 := X15.out.cell 2
  have p2 := X15.out.cell' 2
  have o3 := X15.out.cell 3
  have p3 := X15.out.cell' 3
  simp only [List.getElem?_toArray, List.getElem?_cons_succ, List.getElem?_cons_zero] at o0 o1 o2 o3 p0 p1 p2 p3
  go_wp2_with fail
  refine (same_yes PZ.out.sl PQ.out.sl (canon_vn CZ.out CQ.out (by rw [VZ.out, VQ.out]))).mono ?_
  rintro e w16 ⟨rfl, kk⟩
  have HTOP2 : Hid (cs1' ≤ w16.heap.size) := by unfold Hid; exact Nat.le_trans HTOP.out kk.size
  clear HTOP
  have HTOP := HTOP2
  clear HTOP2
  have X16 := hid (X15.out.step kk)
  have RA' := hid (RA.out.step kk)
  clear RA
  have RA := RA'
  clear RA'
  have RB' := hid (RB.out.step kk)
  clear RB
  have RB := RB'
  clear RB'
  have RC' := hid (RC.out.step kk)
  clear RC
  have RC := RC'
  clear RC'
  have RD' := hid (RD.out.step kk)
  clear RD
  have RD := RD'
  clear RD'
  have PW' := hid (PW.out.step kk)
  clear PW
  have PW := PW'
  clear PW'
  have PQ' := hid (PQ.out.step kk)
  clear PQ
  have PQ := PQ'
  clear PQ'
  have PU' := hid (PU.out.step kk)
  clear PU
  have PU := PU'
  clear PU'
  have PX' := hid (PX.out.step kk)
  clear PX
  have PX := PX'
  clear PX'
  have PY' := hid (PY.out.step kk)
  clear PY
  have PY := PY'
  clear PY'
  have PZ' := hid (PZ.out.step kk)
  clear PZ
  have PZ := PZ'
  clear PZ'
  have PT' := hid (PT.out.step kk)
  clear PT
  have PT := PT'
  clear PT'
  have PS' := hid (PS.out.step kk)
  clear PS
  have PS := PS'
  clear PS'
  clear X15 o0 o1 o2 o3 p0 p1 p2 p3
  clear kk
  have o0 := X16.out.cell 0
  have p0 := X16.out.cell' 0
  have o1 := X16.out.cell 1
  have p1 := X16.out.cell' 1
  have o2 := X16.out.cell 2
  have p2 := X16.out.cell' 2
  have o3 := X16.out.cell 3
  have p3 := X16.out.cell' 3
  simp only [List.getElem?_toArray, List.getElem?_cons_succ, List.getElem?_cons_zero] at o0 o1 o2 o3 p0 p1 p2 p3
  go_wp2_with fail
  refine (same_yes PT.out.sl PU.out.sl (canon_vn CT.out CU.out (by rw [VT.out, VU.out]))).mono ?_
  rintro e w17 ⟨rfl, kk⟩
  have HTOP2 : Hid (cs1' ≤ w17.heap.size) := by unfold Hid; exact Nat.le_trans HTOP.out kk.size
  clear HTOP
  have HTOP := HTOP2
  clear HTOP2
  have X17 := hid (X16.out.step kk)
  have RA' := hid (RA.out.step kk)
  clear RA
  have RA := RA'
  clear RA'
  have RB' := hid (RB.out.step kk)
  clear RB
  have RB := RB'
  clear RB'
  have RC' := hid (RC.out.step kk)
  clear RC
  have RC := RC'
  clear RC'
  have RD' := hid (RD.out.step kk)
  clear RD
  have RD := RD'
  clear RD'
  have PW' := hid (PW.out.step kk)
  clear PW
  have PW := PW'
  clear PW'
  have PQ' := hid (PQ.out.step kk)
  clear PQ
  have PQ := PQ'
  clear PQ'
  have PU' := hid (PU.out.step kk)
  clear PU
  have PU := PU'
  clear PU'
  have PX' := hid (PX.out.step kk)
  clear PX
  have PX := PX'
  clear PX'
  have PY' := hid (PY.out.step kk)
  clear PY
  have PY := PY'
  clear PY'
  have PZ' := hid (PZ.out.step kk)
  clear PZ
  have PZ := PZ'
  clear PZ'
  have PT' := hid (PT.out.step kk)
  clear PT
  have PT := PT'
  clear PT'
  have PS' := hid (PS.out.step kk)
  clear PS
  have PS := PS'
  clear PS'
  clear X16 o0 o1 o2 o3 p0 p1 p2 p3
  clear kk
  have o0 := X17.out.cell 0
  have p0 := X17.out.cell' 0
  have o1 := X17.out.cell 1
  have p1 := X17.out.cell' 1
  have o2 := X17.out.cell 2
  have p2 := X17.out.cell' 2
  have o3 := X17.out.cell 3
  have p3 := X17.out.cell' 3
  simp only [List.getElem?_toArray, List.getElem?_cons_succ, List.getElem?_cons_zero] at o0 o1 o2 o3 p0 p1 p2 p3
  go_wp2_with fail
  refine (same_yes PS.out.sl PW.out.sl (canon_vn CS.out CW.out (by rw [VS.out, VW.out]))).mono ?_
  rintro e w18 ⟨rfl, kk⟩
  have HTOP2 : Hid (cs1' ≤ w18.heap.size) := by unfold Hid; exact Nat.le_trans HTOP.out kk.size
  clear HTOP
  have HTOP := HTOP2
  clear HTOP2
  have X18 := hid (X17.out.step kk)
  have RA' := hid (RA.out.step kk)
  clear RA
  have RA := RA'
  clear RA'
  have RB' := hid (RB.out.step kk)
  clear RB
  have RB := RB'
  clear RB'
  have RC' := hid (RC.out.step kk)
  clear RC
  have RC := RC'
  clear RC'
  have RD' := hid (RD.out.step kk)
  clear RD
  have RD := RD'
  clear RD'
  have PW' := hid (PW.out.step kk)
  clear PW
  have PW := PW'
  clear PW'
  have PQ' := hid (PQ.out.step kk)
  clear PQ
  have PQ := PQ'
  clear PQ'
  have PU' := hid (PU.out.step kk)
  clear PU
  have PU := PU'
  clear PU'
  have PX' := hid (PX.out.step kk)
  clear PX
  have PX := PX'
  clear PX'
  have PY' := hid (PY.out.step kk)
  clear PY
  have PY := PY'
  clear PY'
  have PZ' := hid (PZ.out.step kk)
  clear PZ
  have PZ := PZ'
  clear PZ'
  have PT' := hid (PT.out.step kk)
  clear PT
  have PT := PT'
  clear PT'
  have PS' := hid (PS.out.step kk)
  clear PS
  have PS := PS'
  clear PS'
  clear X17 o0 o1 o2 o3 p0 p1 p2 p3
  clear kk
  clear PQ CQ VQ LQ
  clear PU CU VU LU
  have o0 := X18.out.cell 0
  have p0 := X18.out.cell' 0
  have o1 := X18.out.cell 1
  have p1 := X18.out.cell' 1
  have o2 := X18.out.cell 2
  have p2 := X18.out.cell' 2
  have o3 := X18.out.cell 3
  have p3 := X18.out.cell' 3
  simp only [List.getElem?_toArray, List.getElem?_cons_succ, List.getElem?_cons_zero] at o0 o1 o2 o3 p0 p1 p2 p3
  go_wp2_with fail
  refine (kept_now (RA.out.full WX.out HM.out (by omega)) (HA.out.now X18.out.1) rfl).mono ?_
  rintro e w19 ⟨rfl, kk⟩
  have HTOP2 : Hid (cs1' ≤ w19.heap.size) := by unfold Hid; exact Nat.le_trans HTOP.out kk.size
  clear HTOP
  have HTOP := HTOP2
  clear HTOP2
  have X19 := hid (X18.out.step kk)
  have RA' := hid (RA.out.step kk)
  clear RA
  have RA := RA'
  clear RA'
  have RB' := hid (RB.out.step kk)
  clear RB
  have RB := RB'
  clear RB'
  have RC' := hid (RC.out.step kk)
  clear RC
  have RC := RC'
  clear RC'
  have RD' := hid (RD.out.step kk)
  clear RD
  have RD := RD'
  clear RD'
  have PW' := hid (PW.out.step kk)
  clear PW
  have PW := PW'
  clear PW'
  have PX' := hid (PX.out.step kk)
  clear PX
  have PX := PX'
  clear PX'
  have PY' := hid (PY.out.step kk)
  clear PY
  have PY := PY'
  clear PY'
  have PZ' := hid (PZ.out.step kk)
  clear PZ
  have PZ := PZ'
  clear PZ'
  have PT' := hid (PT.out.step kk)
  clear PT
  have PT := PT'
  clear PT'
  have PS' := hid (PS.out.step kk)
  clear PS
  have PS := PS'
  clear PS'
  clear X18 o0 o1 o2 o3 p0 p1 p2 p3
  clear kk
  have o0 := X19.out.cell 0
  have p0 := X19.out.cell' 0
  have o1 := X19.out.cell 1
  have p1 := X19.out.cell' 1
  have o2 := X19.out.cell 2
  have p2 := X19.out.cell' 2
  have o3 := X19.out.cell 3
  have p3 := X19.out.cell' 3
  simp only [List.getElem?_toArray, List.getElem?_cons_succ, List.getElem?_cons_zero] at o0 o1 o2 o3 p0 p1 p2 p3
  go_wp2_with fail
  refine (kept_now (RB.out.full WY.out HL.out (by omega)) (HB.out.now X19.out.1) rfl).mono ?_
  rintro e w20 ⟨rfl, kk⟩
  have HTOP2 : Hid (cs1' ≤ w20.heap.size) := by unfold Hid; exact Nat.le_trans HTOP.out kk.size
  clear HTOP
  have HTOP := HTOP2
  clear HTOP2
  have X20 := hid (X19.out.step kk)
  have RA' := hid (RA.out.step kk)
  clear RA
  have RA := RA'
  clear RA'
  have RB' := hid (RB.out.step kk)
  clear RB
  have RB := RB'
  clear RB'
  have RC' := hid (RC.out.step kk)
  clear RC
  have RC := RC'
  clear RC'
  have RD' := hid (RD.out.step kk)
  clear RD
  have RD := RD'
  clear RD'
  have PW' := hid (PW.out.step kk)
  clear PW
  have PW := PW'
  clear PW'
  have PX' := hid (PX.out.step kk)
  clear PX
  have PX := PX'
  clear PX'
  have PY' := hid (PY.out.step kk)
  clear PY
  have PY := PY'
  clear PY'
  have PZ' := hid (PZ.out.step kk)
  clear PZ
  have PZ := PZ'
  clear PZ'
  have PT' := hid (PT.out.step kk)
  clear PT
  have PT := PT'
  clear PT'
  have PS' := hid (PS.out.step kk)
  clear PS
  have PS := PS'
  clear PS'
  clear X19 o0 o1 o2 o3 p0 p1 p2 p3
  clear kk
  have o0 := X20.out.cell 0
  have p0 := X20.out.cell' 0
  have o1 := X20.out.cell 1
  have p1 := X20.out.cell' 1
  have o2 := X20.out.cell 2
  have p2 := X20.out.cell' 2
  have o3 := X20.out.cell 3
  have p3 := X20.out.cell' 3
  simp only [List.getElem?_toArray, List.getElem?_cons_succ, List.getElem?_cons_zero] at o0 o1 o2 o3 p0 p1 p2 p3
  go_wp2_with fail
  refine (kept_now (RC.out.full WU.out HM2.out (by omega)) (HC.out.now X20.out.1) rfl).mono ?_
  rintro e w21 ⟨rfl, kk⟩
  have HTOP2 : Hid (cs1' ≤ w21.heap.size) := by unfold Hid; exact Nat.le_trans HTOP.out kk.size
  clear HTOP
  have HTOP := HTOP2
  clear HTOP2
  have X21 := hid (X20.out.step kk)
  have RA' := hid (RA.out.step kk)
  clear RA
  have RA := RA'
  clear RA'
  have RB' := hid (RB.out.step kk)
  clear RB
  have RB := RB'
  clear RB'
  have RC' := hid (RC.out.step kk)
  clear RC
  have RC := RC'
  clear RC'
  have RD' := hid (RD.out.step kk)
  clear RD
  have RD := RD'
  clear RD'
  have PW' := hid (PW.out.step kk)
  clear PW
  have PW := PW'
  clear PW'
  have PX' := hid (PX.out.step kk)
  clear PX
  have PX := PX'
  clear PX'
  have PY' := hid (PY.out.step kk)
  clear PY
  have PY := PY'
  clear PY'
  have PZ' := hid (PZ.out.step kk)
  clear PZ
  have PZ := PZ'
  clear PZ'
  have PT' := hid (PT.out.step kk)
  clear PT
  have PT := PT'
  clear PT'
  have PS' := hid (PS.out.step kk)
  clear PS
  have PS := PS'
  clear PS'
  clear X20 o0 o1 o2 o3 p0 p1 p2 p3
  clear kk
  have o0 := X21.out.cell 0
  have p0 := X21.out.cell' 0
  have o1 := X21.out.cell 1
  have p1 := X21.out.cell' 1
  have o2 := X21.out.cell 2
  have p2 := X21.out.cell' 2
  have o3 := X21.out.cell 3
  have p3 := X21.out.cell' 3
  simp only [List.getElem?_toArray, List.getElem?_cons_succ, List.getElem?_cons_zero] at o0 o1 o2 o3 p0 p1 p2 p3
  go_wp2_with fail
  refine (kept_now (RD.out.full WV.out HL2.out (by omega)) (HD.out.now X21.out.1) rfl).mono ?_
  rintro e w22 ⟨rfl, kk⟩
  have HTOP2 : Hid (cs1' ≤ w22.heap.size) := by unfold Hid; exact Nat.le_trans HTOP.out kk.size
  clear HTOP
  have HTOP := HTOP2
  clear HTOP2
  have X22 := hid (X21.out.step kk)
  have RA' := hid (RA.out.step kk)
  clear RA
  have RA := RA'
  clear RA'
  have RB' := hid (RB.out.step kk)
  clear RB
  have RB := RB'
  clear RB'
  have RC' := hid (RC.out.step kk)
  clear RC
  have RC := RC'
  clear RC'
  have RD' := hid (RD.out.step kk)
  clear RD
  have RD := RD'
  clear RD'
  have PW' := hid (PW.out.step kk)
  clear PW
  have PW := PW'
  clear PW'
  have PX' := hid (PX.out.step kk)
  clear PX
  have PX := PX'
  clear PX'
  have PY' := hid (PY.out.step kk)
  clear PY
  have PY := PY'
  clear PY'
  have PZ' := hid (PZ.out.step kk)
  clear PZ
  have PZ := PZ'
  clear PZ'
  have PT' := hid (PT.out.step kk)
  clear PT
  have PT := PT'
  clear PT'
  have PS' := hid (PS.out.step kk)
  clear PS
  have PS := PS'
  clear PS'
  clear X21 o0 o1 o2 o3 p0 p1 p2 p3
  clear kk
  have o0 := X22.out.cell 0
  have p0 := X22.out.cell' 0
  have o1 := X22.out.cell 1
  have p1 := X22.out.cell' 1
  have o2 := X22.out.cell 2
  have p2 := X22.out.cell' 2
  have o3 := X22.out.cell 3
  have p3 := X22.out.cell' 3
  simp only [List.getElem?_toArray, List.getElem?_cons_succ, List.getElem?_cons_zero] at o0 o1 o2 o3 p0 p1 p2 p3
  go_wp2_with fail
  refine (turned_any (HA.out.now X22.out.1)).mono ?_
  rintro e w23 ⟨rfl, tt, kk⟩
  rw [HM.out]
  have X23 := hid (X22.out.step kk)
  have RA' := hid (RA.out.step kk)
  clear RA
  have RA := RA'
  clear RA'
  have RB' := hid (RB.out.step kk)
  clear RB
  have RB := RB'
  clear RB'
  have RC' := hid (RC.out.step kk)
  clear RC
  have RC := RC'
  clear RC'
  have RD' := hid (RD.out.step kk)
  clear RD
  have RD := RD'
  clear RD'
  have PW' := hid (PW.out.step kk)
  clear PW
  have PW := PW'
  clear PW'
  have PX' := hid (PX.out.step kk)
  clear PX
  have PX := PX'
  clear PX'
  have PY' := hid (PY.out.step kk)
  clear PY
  have PY := PY'
  clear PY'
  have PZ' := hid (PZ.out.step kk)
  clear PZ
  have PZ := PZ'
  clear PZ'
  have PT' := hid (PT.out.step kk)
  clear PT
  have PT := PT'
  clear PT'
  have PS' := hid (PS.out.step kk)
  clear PS
  have PS := PS'
  clear PS'
  clear X22 o0 o1 o2 o3 p0 p1 p2 p3
  have RNA : Hid (Row w23 w22.heap.size (ws (xs.map turnW))) := tt
  have ORNA : Hid (cs1' ≤ w22.heap.size) := HTOP
  have HLT : Hid (w22.heap.size + 1 ≤ w23.heap.size) := by unfold Hid; exact RNA.out.lt
  clear tt kk HTOP
  generalize w22.heap.size = gna at *
  have HTOP := HLT
  clear HLT
  have o0 := X23.out.cell 0
  have p0 := X23.out.cell' 0
  have o1 := X23.out.cell 1
  have p1 := X23.out.cell' 1
  have o2 := X23.out.cell 2
  have p2 := X23.out.cell' 2
  have o3 := X23.out.cell 3
  have p3 := X23.out.cell' 3
  simp only [List.getElem?_toArray, List.getElem?_cons_succ, List.getElem?_cons_zero] at o0 o1 o2 o3 p0 p1 p2 p3
  go_wp2_with fail
  refine (turned_any (HB.out.now X23.out.1)).mono ?_
  rintro e w24 ⟨rfl, tt, kk⟩
  rw [HL.out]
  have X24 := hid (X23.out.step kk)
  have RA' := hid (RA.out.step kk)
  clear RA
  have RA := RA'
  clear RA'
  have RB' := hid (RB.out.step kk)
  clear RB
  have RB := RB'
  clear RB'
  have RC' := hid (RC.out.step kk)
  clear RC
  have RC := RC'
  clear RC'
  have RD' := hid (RD.out.step kk)
  clear RD
  have RD := RD'
  clear RD'
  have RNA' := hid (RNA.out.step kk)
  clear RNA
  have RNA := RNA'
  clear RNA'
  have PW' := hid (PW.out.step kk)
  clear PW
  have PW := PW'
  clear PW'
  have PX' := hid (PX.out.step kk)
  clear PX
  have PX := PX'
  clear PX'
  have PY' := hid (PY.out.step kk)
  clear PY
  have PY := PY'
  clear PY'
  have PZ' := hid (PZ.out.step kk)
  clear PZ
  have PZ := PZ'
  clear PZ'
  have PT' := hid (PT.out.step kk)
  clear PT
  have PT := PT'
  clear PT'
  have PS' := hid (PS.out.step kk)
  clear PS
  have PS := PS'
  clear PS'
  clear X23 o0 o1 o2 o3 p0 p1 p2 p3
  have RNB : Hid (Row w24 w23.heap.size (ws (ys.map turnW))) := tt
  have ORNB : Hid (gna + 1 ≤ w23.heap.size) := HTOP
  have HLT : Hid (w23.heap.size + 1 ≤ w24.heap.size) := by unfold Hid; exact RNB.out.lt
  clear tt kk HTOP
  generalize w23.heap.size = gnb at *
  have HTOP := HLT
  clear HLT
  have WXT := hid (turn_wf WX.out)
  have WYT := hid (turn_wf WY.out)
  have LXT : Hid ((xs.map turnW).length = m) := by unfold Hid; rw [List.length_map]; exact HM.out
  have LYT : Hid ((ys.map turnW).length = l) := by unfold Hid; rw [List.length_map]; exact HL.out
  have o0 := X24.out.cell 0
  have p0 := X24.out.cell' 0
  have o1 := X24.out.cell 1
  have p1 := X24.out.cell' 1
  have o2 := X24.out.cell 2
  have p2 := X24.out.cell' 2
  have o3 := X24.out.cell 3
  have p3 := X24.out.cell' 3
  simp only [List.getElem?_toArray, List.getElem?_cons_succ, List.getElem?_cons_zero] at o0 o1 o2 o3 p0 p1 p2 p3
  have rr : Row w24 ga (ws xs ++ ws (mrk xs.length)) := by rw [← ws_roomy]; exact RA.out
  have RRR := hid rr
  clear rr
  go_wp2_with (refine wpList_copy_over _ rfl (.tmp 218) (.tmp 219) rfl ga gna m (m + 80) m xs (xs.map turnW) (ws (mrk xs.length)) [] RRR.out (by simpa using RNA.out) HM.out LXT.out rfl rfl ?_)
  intro w25 tr tt
  have XX : Hid (Bx2 w (.cells #[.int .i64 kind, .slice aa m ca, .slice ab l cb, .int .i64 n] 24) (.cells #[.int .i64 kin2, .slice ac m2 cc, .slice ad l2 cd, .int .i64 n2] 24) w25) := by unfold Hid; refine X24.out.touch tt.out (fun q hq => ?_); have h1 := ORA.out; have h2 := ORB.out; change _ = _ at hq; omega
  have X25 := XX
  clear XX
  have RB' := hid (tt.out.row RB.out (by intro q; change _ = _ at q; have f0 := ORA.out; have f1 := ORB.out; have f2 := ORC.out; have f3 := ORD.out; have f4 := OW.out; have f5 := OQ.out; have f6 := OU.out; have f7 := OX.out; have f8 := OY.out; have f9 := OZ.out; have f10 := OT.out; have f11 := OS.out; have f12 := ORNA.out; have f13 := ORNB.out; omega))
  clear RB
  have RB : Hid (Rm w25 gb ys) := RB'
  clear RB'
  have RC' := hid (tt.out.row RC.out (by intro q; change _ = _ at q; have f0 := ORA.out; have f1 := ORB.out; have f2 := ORC.out; have f3 := ORD.out; have f4 := OW.out; have f5 := OQ.out; have f6 := OU.out; have f7 := OX.out; have f8 := OY.out; have f9 := OZ.out; have f10 := OT.out; have f11 := OS.out; have f12 := ORNA.out; have f13 := ORNB.out; omega))
  clear RC
  have RC : Hid (Rm w25 gc us) := RC'
  clear RC'
  have RD' := hid (tt.out.row RD.out (by intro q; change _ = _ at q; have f0 := ORA.out; have f1 := ORB.out; have f2 := ORC.out; have f3 := ORD.out; have f4 := OW.out; have f5 := OQ.out; have f6 := OU.out; have f7 := OX.out; have f8 := OY.out; have f9 := OZ.out; have f10 := OT.out; have f11 := OS.out; have f12 := ORNA.out; have f13 := ORNB.out; omega))
  clear RD
  have RD : Hid (Rm w25 gd vs) := RD'
  clear RD'
  have RNA' := hid (tt.out.row RNA.out (by intro q; change _ = _ at q; have f0 := ORA.out; have f1 := ORB.out; have f2 := ORC.out; have f3 := ORD.out; have f4 := OW.out; have f5 := OQ.out; have f6 := OU.out; have f7 := OX.out; have f8 := OY.out; have f9 := OZ.out; have f10 := OT.out; have f11 := OS.out; have f12 := ORNA.out; have f13 := ORNB.out; omega))
  clear RNA
  have RNA : Hid (Row w25 gna (ws (xs.map turnW))) := RNA'
  clear RNA'
  have RNB' := hid (tt.out.row RNB.out (by intro q; change _ = _ at q; have f0 := ORA.out; have f1 := ORB.out; have f2 := ORC.out; have f3 := ORD.out; have f4 := OW.out; have f5 := OQ.out; have f6 := OU.out; have f7 := OX.out; have f8 := OY.out; have f9 := OZ.out; have f10 := OT.out; have f11 := OS.out; have f12 := ORNA.out; have f13 := ORNB.out; omega))
  clear RNB
  have RNB : Hid (Row w25 gnb (ws (ys.map turnW))) := RNB'
  clear RNB'
  have PW' := hid (PW.out.touch tt.out (by intro g h1 h2 q; change _ = _ at q; have f0 := ORA.out; have f1 := ORB.out; have f2 := ORC.out; have f3 := ORD.out; have f4 := OW.out; have f5 := OQ.out; have f6 := OU.out; have f7 := OX.out; have f8 := OY.out; have f9 := OZ.out; have f10 := OT.out; have f11 := OS.out; have f12 := ORNA.out; have f13 := ORNB.out; omega))
  clear PW
  have PW := PW'
  clear PW'
  have PX' := hid (PX.out.touch tt.out (by intro g h1 h2 q; change _ = _ at q; have f0 := ORA.out; have f1 := ORB.out; have f2 := ORC.out; have f3 := ORD.out; have f4 := OW.out; have f5 := OQ.out; have f6 := OU.out; have f7 := OX.out; have f8 := OY.out; have f9 := OZ.out; have f10 := OT.out; have f11 := OS.out; have f12 := ORNA.out; have f13 := ORNB.out; omega))
  clear PX
  have PX := PX'
  clear PX'
  have PY' := hid (PY.out.touch tt.out (by intro g h1 h2 q; change _ = _ at q; have f0 := ORA.out; have f1 := ORB.out; have f2 := ORC.out; have f3 := ORD.out; have f4 := OW.out; have f5 := OQ.out; have f6 := OU.out; have f7 := OX.out; have f8 := OY.out; have f9 := OZ.out; have f10 := OT.out; have f11 := OS.out; have f12 := ORNA.out; have f13 := ORNB.out; omega))
  clear PY
  have PY := PY'
  clear PY'
  have PZ' := hid (PZ.out.touch tt.out (by intro g h1 h2 q; change _ = _ at q; have f0 := ORA.out; have f1 := ORB.out; have f2 := ORC.out; have f3 := ORD.out; have f4 := OW.out; have f5 := OQ.out; have f6 := OU.out; have f7 := OX.out; have f8 := OY.out; have f9 := OZ.out; have f10 := OT.out; have f11 := OS.out; have f12 := ORNA.out; have f13 := ORNB.out; omega))
  clear PZ
  have PZ := PZ'
  clear PZ'
  have PT' := hid (PT.out.touch tt.out (by intro g h1 h2 q; change _ = _ at q; have f0 := ORA.out; have f1 := ORB.out; have f2 := ORC.out; have f3 := ORD.out; have f4 := OW.out; have f5 := OQ.out; have f6 := OU.out; have f7 := OX.out; have f8 := OY.out; have f9 := OZ.out; have f10 := OT.out; have f11 := OS.out; have f12 := ORNA.out; have f13 := ORNB.out; omega))
  clear PT
  have PT := PT'
  clear PT'
  have PS' := hid (PS.out.touch tt.out (by intro g h1 h2 q; change _ = _ at q; have f0 := ORA.out; have f1 := ORB.out; have f2 := ORC.out; have f3 := ORD.out; have f4 := OW.out; have f5 := OQ.out; have f6 := OU.out; have f7 := OX.out; have f8 := OY.out; have f9 := OZ.out; have f10 := OT.out; have f11 := OS.out; have f12 := ORNA.out; have f13 := ORNB.out; omega))
  clear PS
  have PS := PS'
  clear PS'
  have HTOP2 : Hid (gnb + 1 ≤ w25.heap.size) := by unfold Hid; exact Nat.le_trans HTOP.out tt.out.size
  clear HTOP
  have HTOP := HTOP2
  clear HTOP2
  clear X24 o0 o1 o2 o3 p0 p1 p2 p3
  clear RA
  have RA : Hid (Rm w25 ga (xs.map turnW)) := Rm.over (xs := xs) (by simp) tr.out
  clear tr tt RRR
  have o0 := X25.out.cell 0
  have p0 := X25.out.cell' 0
  have o1 := X25.out.cell 1
  have p1 := X25.out.cell' 1
  have o2 := X25.out.cell 2
  have p2 := X25.out.cell' 2
  have o3 := X25.out.cell 3
  have p3 := X25.out.cell' 3
  simp only [List.getElem?_toArray, List.getElem?_cons_succ, List.getElem?_cons_zero] at o0 o1 o2 o3 p0 p1 p2 p3
  have rr : Row w25 gb (ws ys ++ ws (mrk ys.length)) := by rw [← ws_roomy]; exact RB.out
  have RRR := hid rr
  clear rr
  go_wp2_with (refine wpList_copy_over _ rfl (.tmp 221) (.tmp 222) rfl gb gnb l (l + 80) l ys (ys.map turnW) (ws (mrk ys.length)) [] RRR.out (by simpa using RNB.out) HL.out LYT.out rfl rfl ?_)
  intro w26 tr tt
  have XX : Hid (Bx2 w (.cells #[.int .i64 kind, .slice aa m ca, .slice ab l cb, .int .i64 n] 24) (.cells #[.int .i64 kin2, .slice ac m2 cc, .slice ad l2 cd, .int .i64 n2] 24) w26) := by unfold Hid; refine X25.out.touch tt.out (fun q hq => ?_); have h1 := ORA.out; have h2 := ORB.out; change _ = _ at hq; omega
  have X26 := XX
  clear XX
  have RA' := hid (tt.out.row RA.out (by intro q; change _ = _ at q; have f0 := ORA.out; have f1 := ORB.out; have f2 := ORC.out; have f3 := ORD.out; have f4 := OW.out; have f5 := OQ.out; have f6 := OU.out; have f7 := OX.out; have f8 := OY.out; have f9 := OZ.out; have f10 := OT.out; have f11 := OS.out; have f12 := ORNA.out; have f13 := ORNB.out; omega))
  clear RA
  have RA : Hid (Rm w26 ga (xs.map turnW)) := RA'
  clear RA'
  have RC' := hid (tt.out.row RC.out (by intro q; change _ = _ at q; have f0 := ORA.out; have f1 := ORB.out; have f2 := ORC.out; have f3 := ORD.out; have f4 := OW.out; have f5 := OQ.out; have f6 := OU.out; have f7 := OX.out; have f8 := OY.out; have f9 := OZ.out; have f10 := OT.out; have f11 := OS.out; have f12 := ORNA.out; have f13 := ORNB.out; omega))
  clear RC
  have RC : Hid (Rm w26 gc us) := RC'
  clear RC'
  have RD' := hid (tt.out.row RD.out (by intro q; change _ = _ at q; have f0 := ORA.out; have f1 := ORB.out; have f2 := ORC.out; have f3 := ORD.out; have f4 := OW.out; have f5 := OQ.out; have f6 := OU.out; have f7 := OX.out; have f8 := OY.out; have f9 := OZ.out; have f10 := OT.out; have f11 := OS.out; have f12 := ORNA.out; have f13 := ORNB.out; omega))
  clear RD
  have RD : Hid (Rm w26 gd vs) := RD'
  clear RD'
  have RNA' := hid (tt.out.row RNA.out (by intro q; change _ = _ at q; have f0 := ORA.out; have f1 := ORB.out; have f2 := ORC.out; have f3 := ORD.out; have f4 := OW.out; have f5 := OQ.out; have f6 := OU.out; have f7 := OX.out; have f8 := OY.out; have f9 := OZ.out; have f10 := OT.out; have f11 := OS.out; have f12 := ORNA.out; have f13 := ORNB.out; omega))
  clear RNA
  have RNA : Hid (Row w26 gna (ws (xs.map turnW))) := RNA'
  clear RNA'
  have RNB' := hid (tt.out.row RNB.out (by intro q; change _ = _ at q; have f0 := ORA.out; have f1 := ORB.out; have f2 := ORC.out; have f3 := ORD.out; have f4 := OW.out; have f5 := OQ.out; have f6 := OU.out; have f7 := OX.out; have f8 := OY.out; have f9 := OZ.out; have f10 := OT.out; have f11 := OS.out; have f12 := ORNA.out; have f13 := ORNB.out; omega))
  clear RNB
  have RNB : Hid (Row w26 gnb (ws (ys.map turnW))) := RNB'
  clear RNB'
  have PW' := hid (PW.out.touch tt.out (by intro g h1 h2 q; change _ = _ at q; have f0 := ORA.out; have f1 := ORB.out; have f2 := ORC.out; have f3 := ORD.out; have f4 := OW.out; have f5 := OQ.out; have f6 := OU.out; have f7 := OX.out; have f8 := OY.out; have f9 := OZ.out; have f10 := OT.out; have f11 := OS.out; have f12 := ORNA.out; have f13 := ORNB.out; omega))
  clear PW
  have PW := PW'
  clear PW'
  have PX' := hid (PX.out.touch tt.out (by intro g h1 h2 q; change _ = _ at q; have f0 := ORA.out; have f1 := ORB.out; have f2 := ORC.out; have f3 := ORD.out; have f4 := OW.out; have f5 := OQ.out; have f6 := OU.out; have f7 := OX.out; have f8 := OY.out; have f9 := OZ.out; have f10 := OT.out; have f11 := OS.out; have f12 := ORNA.out; have f13 := ORNB.out; omega))
  clear PX
  have PX := PX'
  clear PX'
  have PY' := hid (PY.out.touch tt.out (by intro g h1 h2 q; change _ = _ at q; have f0 := ORA.out; have f1 := ORB.out; have f2 := ORC.out; have f3 := ORD.out; have f4 := OW.out; have f5 := OQ.out; have f6 := OU.out; have f7 := OX.out; have f8 := OY.out; have f9 := OZ.out; have f10 := OT.out; have f11 := OS.out; have f12 := ORNA.out; have f13 := ORNB.out; omega))
  clear PY
  have PY := PY'
  clear PY'
  have PZ' := hid (PZ.out.touch tt.out (by intro g h1 h2 q; change _ = _ at q; have f0 := ORA.out; have f1 := ORB.out; have f2 := ORC.out; have f3 := ORD.out; have f4 := OW.out; have f5 := OQ.out; have f6 := OU.out; have f7 := OX.out; have f8 := OY.out; have f9 := OZ.out; have f10 := OT.out; have f11 := OS.out; have f12 := ORNA.out; have f13 := ORNB.out; omega))
  clear PZ
  have PZ := PZ'
  clear PZ'
  have PT' := hid (PT.out.touch tt.out (by intro g h1 h2 q; change _ = _ at q; have f0 := ORA.out; have f1 := ORB.out; have f2 := ORC.out; have f3 := ORD.out; have f4 := OW.out; have f5 := OQ.out; have f6 := OU.out; have f7 := OX.out; have f8 := OY.out; have f9 := OZ.out; have f10 := OT.out; have f11 := OS.out; have f12 := ORNA.out; have f13 := ORNB.out; omega))
  clear PT
  have PT := PT'
  clear PT'
  have PS' := hid (PS.out.touch tt.out (by intro g h1 h2 q; change _ = _ at q; have f0 := ORA.out; have f1 := ORB.out; have f2 := ORC.out; have f3 := ORD.out; have f4 := OW.out; have f5 := OQ.out; have f6 := OU.out; have f7 := OX.out; have f8 := OY.out; have f9 := OZ.out; have f10 := OT.out; have f11 := OS.out; have f12 := ORNA.out; have f13 := ORNB.out; omega))
  clear PS
  have PS := PS'
  clear PS'
  have HTOP2 : Hid (gnb + 1 ≤ w26.heap.size) := by unfold Hid; exact Nat.le_trans HTOP.out tt.out.size
  clear HTOP
  have HTOP := HTOP2
  clear HTOP2
  clear X25 o0 o1 o2 o3 p0 p1 p2 p3
  clear RB
  have RB : Hid (Rm w26 gb (ys.map turnW)) := Rm.over (xs := ys) (by simp) tr.out
  clear tr tt RRR
  have o0 := X26.out.cell 0
  have p0 := X26.out.cell' 0
  have o1 := X26.out.cell 1
  have p1 := X26.out.cell' 1
  have o2 := X26.out.cell 2
  have p2 := X26.out.cell' 2
  have o3 := X26.out.cell 3
  have p3 := X26.out.cell' 3
  simp only [List.getElem?_toArray, List.getElem?_cons_succ, List.getElem?_cons_zero] at o0 o1 o2 o3 p0 p1 p2 p3
  go_wp2_with fail
  refine (wanted_own (RNA.out.whole WXT.out LXT.out (by omega)) (RNB.out.whole WYT.out LYT.out (by omega)) (by rw [LXT.out]; omega) (by rw [LYT.out]; omega) kind hn).mono ?_
  rintro e w27 ⟨N, vn1, rfl, on1, cn1, hn1, kk⟩
  have CN := hid cn1
  have VN := hid hn1
  have LN := hid on1.2
  obtain ⟨bn1, eb⟩ : ∃ b, w26.heap.size = b := ⟨_, rfl⟩
  obtain ⟨cn1', ec⟩ : ∃ c, w27.heap.size = c := ⟨_, rfl⟩
  have PN : Hid (Pl bn1 cn1' w27 vn1 N) := by unfold Hid; rw [eb] at on1; exact Pl.of on1 ec
  have ON : Hid (gnb + 1 ≤ bn1 ∧ bn1 ≤ cn1') := by unfold Hid; have h1 := HTOP.out; have h2 := kk.size; omega
  have X27 := hid (X26.out.step kk)
  have RA' := hid (RA.out.step kk)
  clear RA
  have RA := RA'
  clear RA'
  have RB' := hid (RB.out.step kk)
  clear RB
  have RB := RB'
  clear RB'
  have RC' := hid (RC.out.step kk)
  clear RC
  have RC := RC'
  clear RC'
  have RD' := hid (RD.out.step kk)
  clear RD
  have RD := RD'
  clear RD'
  have RNA' := hid (RNA.out.step kk)
  clear RNA
  have RNA := RNA'
  clear RNA'
  have RNB' := hid (RNB.out.step kk)
  clear RNB
  have RNB := RNB'
  clear RNB'
  have PW' := hid (PW.out.step kk)
  clear PW
  have PW := PW'
  clear PW'
  have PX' := hid (PX.out.step kk)
  clear PX
  have PX := PX'
  clear PX'
  have PY' := hid (PY.out.step kk)
  clear PY
  have PY := PY'
  clear PY'
  have PZ' := hid (PZ.out.step kk)
  clear PZ
  have PZ := PZ'
  clear PZ'
  have PT' := hid (PT.out.step kk)
  clear PT
  have PT := PT'
  clear PT'
  have PS' := hid (PS.out.step kk)
  clear PS
  have PS := PS'
  clear PS'
  clear X26 o0 o1 o2 o3 p0 p1 p2 p3
  have HTOP2 : Hid (cn1' ≤ w27.heap.size) := by unfold Hid; omega
  clear HTOP eb ec kk on1 cn1 hn1
  have HTOP := HTOP2
  clear HTOP2
  obtain ⟨an1, qn1, ev⟩ := PN.out.form
  subst ev
  have o0 := X27.out.cell 0
  have p0 := X27.out.cell' 0
  have o1 := X27.out.cell 1
  have p1 := X27.out.cell' 1
  have o2 := X27.out.cell 2
  have p2 := X27.out.cell' 2
  have o3 := X27.out.cell 3
  have p3 := X27.out.cell' 3
  simp only [List.getElem?_toArray, List.getElem?_cons_succ, List.getElem?_cons_zero] at o0 o1 o2 o3 p0 p1 p2 p3
  go_wp2_with fail
  refine (list_own (RA.out.part WXT.out LXT.out (by omega)) (RB.out.part WYT.out LYT.out (by omega)) (by rw [LXT.out]; omega) (by rw [LYT.out]; omega) kind hn).mono ?_
  rintro e w28 ⟨V, vv1, rfl, ov1, cv1, hv1, kk⟩
  have CV := hid cv1
  have VV := hid hv1
  have LV := hid ov1.2
  obtain ⟨bv1, eb⟩ : ∃ b, w27.heap.size = b := ⟨_, rfl⟩
  obtain ⟨cv1', ec⟩ : ∃ c, w28.heap.size = c := ⟨_, rfl⟩
  have PV : Hid (Pl bv1 cv1' w28 vv1 V) := by unfold Hid; rw [eb] at ov1; exact Pl.of ov1 ec
  have OV : Hid (cn1' ≤ bv1 ∧ bv1 ≤ cv1') := by unfold Hid; have h1 := HTOP.out; have h2 := kk.size; omega
  have X28 := hid (X27.out.step kk)
  have RA' := hid (RA.out.step kk)
  clear RA
  have RA := RA'
  clear RA'
  have RB' := hid (RB.out.step kk)
  clear RB
  have RB := RB'
  clear RB'
  have RC' := hid (RC.out.step kk)
  clear RC
  have RC := RC'
  clear RC'
  have RD' := hid (RD.out.step kk)
  clear RD
  have RD := RD'
  clear RD'
  have RNA' := hid (RNA.out.step kk)
  clear RNA
  have RNA := RNA'
  clear RNA'
  have RNB' := hid (RNB.out.step kk)
  clear RNB
  have RNB := RNB'
  clear RNB'
  have PW' := hid (PW.out.step kk)
  clear PW
  have PW := PW'
  clear PW'
  have PX' := hid (PX.out.step kk)
  clear PX
  have PX := PX'
  clear PX'
  have PY' := hid (PY.out.step kk)
  clear PY
  have PY := PY'
  clear PY'
  have PZ' := hid (PZ.out.step kk)
  clear PZ
  have PZ := PZ'
  clear PZ'
  have PT' := hid (PT.out.step kk)
  clear PT
  have PT := PT'
  clear PT'
  have PS' := hid (PS.out.step kk)
  clear PS
  have PS := PS'
  clear PS'
  have PN' := hid (PN.out.step kk)
  clear PN
  have PN := PN'
  clear PN'
  clear X27 o0 o1 o2 o3 p0 p1 p2 p3
  have HTOP2 : Hid (cv1' ≤ w28.heap.size) := by unfold Hid; omega
  clear HTOP eb ec kk ov1 cv1 hv1
  have HTOP := HTOP2
  clear HTOP2
  obtain ⟨av1, qv1, ev⟩ := PV.out.form
  subst ev
  have o0 := X28.out.cell 0
  have p0 := X28.out.cell' 0
  have o1 := X28.out.cell 1
  have p1 := X28.out.cell' 1
  have o2 := X28.out.cell 2
  have p2 := X28.out.cell' 2
  have o3 := X28.out.cell 3
  have p3 := X28.out.cell' 3
  simp only [List.getElem?_toArray, List.getElem?_cons_succ, List.getElem?_cons_zero] at o0 o1 o2 o3 p0 p1 p2 p3
  go_wp2_with fail
  refine (same_yes PV.out.sl PN.out.sl (canon_vn CV.out CN.out (by rw [VV.out, VN.out]))).mono ?_
  rintro e w29 ⟨rfl, kk⟩
  have HTOP2 : Hid (cv1' ≤ w29.heap.size) := by unfold Hid; exact Nat.le_trans HTOP.out kk.size
  clear HTOP
  have HTOP := HTOP2
  clear HTOP2
  have X29 := hid (X28.out.step kk)
  have RA' := hid (RA.out.step kk)
  clear RA
  have RA := RA'
  clear RA'
  have RB' := hid (RB.out.step kk)
  clear RB
  have RB := RB'
  clear RB'
  have RC' := hid (RC.out.step kk)
  clear RC
  have RC := RC'
  clear RC'
  have RD' := hid (RD.out.step kk)
  clear RD
  have RD := RD'
  clear RD'
  have RNA' := hid (RNA.out.step kk)
  clear RNA
  have RNA := RNA'
  clear RNA'
  have RNB' := hid (RNB.out.step kk)
  clear RNB
  have RNB := RNB'
  clear RNB'
  have PW' := hid (PW.out.step kk)
  clear PW
  have PW := PW'
  clear PW'
  have PX' := hid (PX.out.step kk)
  clear PX
  have PX := PX'
  clear PX'
  have PY' := hid (PY.out.step kk)
  clear PY
  have PY := PY'
  clear PY'
  have PZ' := hid (PZ.out.step kk)
  clear PZ
  have PZ := PZ'
  clear PZ'
  have PT' := hid (PT.out.step kk)
  clear PT
  have PT := PT'
  clear PT'
  have PS' := hid (PS.out.step kk)
  clear PS
  have PS := PS'
  clear PS'
  have PN' := hid (PN.out.step kk)
  clear PN
  have PN := PN'
  clear PN'
  have PV' := hid (PV.out.step kk)
  clear PV
  have PV := PV'
  clear PV'
  clear X28 o0 o1 o2 o3 p0 p1 p2 p3
  clear kk
  have o0 := X29.out.cell 0
  have p0 := X29.out.cell' 0
  have o1 := X29.out.cell 1
  have p1 := X29.out.cell' 1
  have o2 := X29.out.cell 2
  have p2 := X29.out.cell' 2
  have o3 := X29.out.cell 3
  have p3 := X29.out.cell' 3
  simp only [List.getElem?_toArray, List.getElem?_cons_succ, List.getElem?_cons_zero] at o0 o1 o2 o3 p0 p1 p2 p3
  go_wp2_with fail
  refine (same_yes PX.out.sl PW.out.sl (canon_vn CX.out CW.out (by rw [VX.out, VW.out]))).mono ?_
  rintro e w30 ⟨rfl, kk⟩
  have HTOP2 : Hid (cv1' ≤ w30.heap.size) := by unfold Hid; exact Nat.le_trans HTOP.out kk.size
  clear HTOP
  have HTOP := HTOP2
  clear HTOP2
  have X30 := hid (X29.out.step kk)
  have RA' := hid (RA.out.step kk)
  clear RA
  have RA := RA'
  clear RA'
  have RB' := hid (RB.out.step kk)
  clear RB
  have RB := RB'
  clear RB'
  have RC' := hid (RC.out.step kk)
  clear RC
  have RC := RC'
  clear RC'
  have RD' := hid (RD.out.step kk)
  clear RD
  have RD := RD'
  clear RD'
  have RNA' := hid (RNA.out.step kk)
  clear RNA
  have RNA := RNA'
  clear RNA'
  have RNB' := hid (RNB.out.step kk)
  clear RNB
  have RNB := RNB'
  clear RNB'
  have PW' := hid (PW.out.step kk)
  clear PW
  have PW := PW'
  clear PW'
  have PX' := hid (PX.out.step kk)
  clear PX
  have PX := PX'
  clear PX'
  have PY' := hid (PY.out.step kk)
  clear PY
  have PY := PY'
  clear PY'
  have PZ' := hid (PZ.out.step kk)
  clear PZ
  have PZ := PZ'
  clear PZ'
  have PT' := hid (PT.out.step kk)
  clear PT
  have PT := PT'
  clear PT'
  have PS' := hid (PS.out.step kk)
  clear PS
  have PS := PS'
  clear PS'
  have PN' := hid (PN.out.step kk)
  clear PN
  have PN := PN'
  clear PN'
  have PV' := hid (PV.out.step kk)
  clear PV
  have PV := PV'
  clear PV'
  clear X29 o0 o1 o2 o3 p0 p1 p2 p3
  clear kk
  have o0 := X30.out.cell 0
  have p0 := X30.out.cell' 0
  have o1 := X30.out.cell 1
  have p1 := X30.out.cell' 1
  have o2 := X30.out.cell 2
  have p2 := X30.out.cell' 2
  have o3 := X30.out.cell 3
  have p3 := X30.out.cell' 3
  simp only [List.getElem?_toArray, List.getElem?_cons_succ, List.getElem?_cons_zero] at o0 o1 o2 o3 p0 p1 p2 p3
  go_wp2_with fail
  refine (same_yes PS.out.sl PW.out.sl (canon_vn CS.out CW.out (by rw [VS.out, VW.out]))).mono ?_
  rintro e w31 ⟨rfl, kk⟩
  have HTOP2 : Hid (cv1' ≤ w31.heap.size) := by unfold Hid; exact Nat.le_trans HTOP.out kk.size
  clear HTOP
  have HTOP := HTOP2
  clear HTOP2
  have X31 := hid (X30.out.step kk)
  have RA' := hid (RA.out.step kk)
  clear RA
  have RA := RA'
  clear RA'
  have RB' := hid (RB.out.step kk)
  clear RB
  have RB := RB'
  clear RB'
  have RC' := hid (RC.out.step kk)
  clear RC
  have RC := RC'
  clear RC'
  have RD' := hid (RD.out.step kk)
  clear RD
  have RD := RD'
  clear RD'
  have RNA' := hid (RNA.out.step kk)
  clear RNA
  have RNA := RNA'
  clear RNA'
  have RNB' := hid (RNB.out.step kk)
  clear RNB
  have RNB := RNB'
  clear RNB'
  have PW' := hid (PW.out.step kk)
  clear PW
  have PW := PW'
  clear PW'
  have PX' := hid (PX.out.step kk)
  clear PX
  have PX := PX'
  clear PX'
  have PY' := hid (PY.out.step kk)
  clear PY
  have PY := PY'
  clear PY'
  have PZ' := hid (PZ.out.step kk)
  clear PZ
  have PZ := PZ'
  clear PZ'
  have PT' := hid (PT.out.step kk)
  clear PT
  have PT := PT'
  clear PT'
  have PS' := hid (PS.out.step kk)
  clear PS
  have PS := PS'
  clear PS'
  have PN' := hid (PN.out.step kk)
  clear PN
  have PN := PN'
  clear PN'
  have PV' := hid (PV.out.step kk)
  clear PV
  have PV := PV'
  clear PV'
  clear X30 o0 o1 o2 o3 p0 p1 p2 p3
  clear kk
  have o0 := X31.out.cell 0
  have p0 := X31.out.cell' 0
  have o1 := X31.out.cell 1
  have p1 := X31.out.cell' 1
  have o2 := X31.out.cell 2
  have p2 := X31.out.cell' 2
  have o3 := X31.out.cell 3
  have p3 := X31.out.cell' 3
  simp only [List.getElem?_toArray, List.getElem?_cons_succ, List.getElem?_cons_zero] at o0 o1 o2 o3 p0 p1 p2 p3
  go_wp2_with fail
  obtain ⟨wb, ewb⟩ : ∃ wb, wb = (w31.alloc (.cells #[.slice ax1 X.length qx1, .slice ay1 Y.length qy1, .slice az1 Z.length qz1, .slice at1 T.length qt1, .slice as1 S.length qs1, .slice av1 V.length qv1] 22)).alloc (.cells #[.slice (some ⟨w31.heap.size, 0, none⟩) 6 6, .slice none 0 0, .slice none 0 0] 35) := ⟨_, rfl⟩
  rw [← ewb]
  obtain ⟨kk, hsz, hd0, hd1, hd2, hit⟩ := book_new w31 (.slice ax1 X.length qx1) (.slice ay1 Y.length qy1) (.slice az1 Z.length qz1) (.slice at1 T.length qt1) (.slice as1 S.length qs1) (.slice av1 V.length qv1) ewb
  clear ewb
  have HTB : Hid (cv1' ≤ w31.heap.size) := HTOP
  have XB := hid (X31.out.step kk)
  have RA' := hid (RA.out.step kk)
  clear RA
  have RA := RA'
  clear RA'
  have RB' := hid (RB.out.step kk)
  clear RB
  have RB := RB'
  clear RB'
  have RC' := hid (RC.out.step kk)
  clear RC
  have RC := RC'
  clear RC'
  have RD' := hid (RD.out.step kk)
  clear RD
  have RD := RD'
  clear RD'
  have RNA' := hid (RNA.out.step kk)
  clear RNA
  have RNA := RNA'
  clear RNA'
  have RNB' := hid (RNB.out.step kk)
  clear RNB
  have RNB := RNB'
  clear RNB'
  have PW' := hid (PW.out.step kk)
  clear PW
  have PW := PW'
  clear PW'
  have PX' := hid (PX.out.step kk)
  clear PX
  have PX := PX'
  clear PX'
  have PY' := hid (PY.out.step kk)
  clear PY
  have PY := PY'
  clear PY'
  have PZ' := hid (PZ.out.step kk)
  clear PZ
  have PZ := PZ'
  clear PZ'
  have PT' := hid (PT.out.step kk)
  clear PT
  have PT := PT'
  clear PT'
  have PS' := hid (PS.out.step kk)
  clear PS
  have PS := PS'
  clear PS'
  have PN' := hid (PN.out.step kk)
  clear PN
  have PN := PN'
  clear PN'
  have PV' := hid (PV.out.step kk)
  clear PV
  have PV := PV'
  clear PV'
  clear X31 o0 o1 o2 o3 p0 p1 p2 p3
  obtain ⟨LL, hbk⟩ := bk6 (bb := w31.heap.size + 1) (gb := w31.heap.size) PX.out PY.out PZ.out PT.out PS.out PV.out LX.out LY.out LZ.out LT.out LS.out LV.out (by have f0 := ORA.out; have f1 := ORB.out; have f2 := ORC.out; have f3 := ORD.out; have f4 := OW.out; have f5 := OQ.out; have f6 := OU.out; have f7 := OX.out; have f8 := OY.out; have f9 := OZ.out; have f10 := OT.out; have f11 := OS.out; have f12 := ORNA.out; have f13 := ORNB.out; have f14 := ON.out; have f15 := OV.out; have ft := HTB.out; omega) (by have f0 := ORA.out; have f1 := ORB.out; have f2 := ORC.out; have f3 := ORD.out; have f4 := OW.out; have f5 := OQ.out; have f6 := OU.out; have f7 := OX.out; have f8 := OY.out; have f9 := OZ.out; have f10 := OT.out; have f11 := OS.out; have f12 := ORNA.out; have f13 := ORNB.out; have f14 := ON.out; have f15 := OV.out; have ft := HTB.out; omega) (by have f0 := ORA.out; have f1 := ORB.out; have f2 := ORC.out; have f3 := ORD.out; have f4 := OW.out; have f5 := OQ.out; have f6 := OU.out; have f7 := OX.out; have f8 := OY.out; have f9 := OZ.out; have f10 := OT.out; have f11 := OS.out; have f12 := ORNA.out; have f13 := ORNB.out; have f14 := ON.out; have f15 := OV.out; have ft := HTB.out; omega) (by have f0 := ORA.out; have f1 := ORB.out; have f2 := ORC.out; have f3 := ORD.out; have f4 := OW.out; have f5 := OQ.out; have f6 := OU.out; have f7 := OX.out; have f8 := OY.out; have f9 := OZ.out; have f10 := OT.out; have f11 := OS.out; have f12 := ORNA.out; have f13 := ORNB.out; have f14 := ON.out; have f15 := OV.out; have ft := HTB.out; omega) (by have f0 := ORA.out; have f1 := ORB.out; have f2 := ORC.out; have f3 := ORD.out; have f4 := OW.out; have f5 := OQ.out; have f6 := OU.out; have f7 := OX.out; have f8 := OY.out; have f9 := OZ.out; have f10 := OT.out; have f11 := OS.out; have f12 := ORNA.out; have f13 := ORNB.out; have f14 := ON.out; have f15 := OV.out; have ft := HTB.out; omega) (by have f0 := ORA.out; have f1 := ORB.out; have f2 := ORC.out; have f3 := ORD.out; have f4 := OW.out; have f5 := OQ.out; have f6 := OU.out; have f7 := OX.out; have f8 := OY.out; have f9 := OZ.out; have f10 := OT.out; have f11 := OS.out; have f12 := ORNA.out; have f13 := ORNB.out; have f14 := ON.out; have f15 := OV.out; have ft := HTB.out; omega) (by have f0 := ORA.out; have f1 := ORB.out; have f2 := ORC.out; have f3 := ORD.out; have f4 := OW.out; have f5 := OQ.out; have f6 := OU.out; have f7 := OX.out; have f8 := OY.out; have f9 := OZ.out; have f10 := OT.out; have f11 := OS.out; have f12 := ORNA.out; have f13 := ORNB.out; have f14 := ON.out; have f15 := OV.out; have ft := HTB.out; omega) (by have f0 := ORA.out; have f1 := ORB.out; have f2 := ORC.out; have f3 := ORD.out; have f4 := OW.out; have f5 := OQ.out; have f6 := OU.out; have f7 := OX.out; have f8 := OY.out; have f9 := OZ.out; have f10 := OT.out; have f11 := OS.out; have f12 := ORNA.out; have f13 := ORNB.out; have f14 := ON.out; have f15 := OV.out; have ft := HTB.out; omega) (by have f0 := ORA.out; have f1 := ORB.out; have f2 := ORC.out; have f3 := ORD.out; have f4 := OW.out; have f5 := OQ.out; have f6 := OU.out; have f7 := OX.out; have f8 := OY.out; have f9 := OZ.out; have f10 := OT.out; have f11 := OS.out; have f12 := ORNA.out; have f13 := ORNB.out; have f14 := ON.out; have f15 := OV.out; have ft := HTB.out; omega) (by have f0 := ORA.out; have f1 := ORB.out; have f2 := ORC.out; have f3 := ORD.out; have f4 := OW.out; have f5 := OQ.out; have f6 := OU.out; have f7 := OX.out; have f8 := OY.out; have f9 := OZ.out; have f10 := OT.out; have f11 := OS.out; have f12 := ORNA.out; have f13 := ORNB.out; have f14 := ON.out; have f15 := OV.out; have ft := HTB.out; omega) (by have f0 := ORA.out; have f1 := ORB.out; have f2 := ORC.out; have f3 := ORD.out; have f4 := OW.out; have f5 := OQ.out; have f6 := OU.out; have f7 := OX.out; have f8 := OY.out; have f9 := OZ.out; have f10 := OT.out; have f11 := OS.out; have f12 := ORNA.out; have f13 := ORNB.out; have f14 := ON.out; have f15 := OV.out; have ft := HTB.out; omega) (by have f0 := ORA.out; have f1 := ORB.out; have f2 := ORC.out; have f3 := ORD.out; have f4 := OW.out; have f5 := OQ.out; have f6 := OU.out; have f7 := OX.out; have f8 := OY.out; have f9 := OZ.out; have f10 := OT.out; have f11 := OS.out; have f12 := ORNA.out; have f13 := ORNB.out; have f14 := ON.out; have f15 := OV.out; have ft := HTB.out; omega) (by omega) (by omega) hd0 hit
  have NRA := hid (six_free PX.out.2.2 PY.out.2.2 PZ.out.2.2 PT.out.2.2 PS.out.2.2 PV.out.2.2 (g := ga) (by have f0 := ORA.out; have f1 := ORB.out; have f2 := ORC.out; have f3 := ORD.out; have f4 := OW.out; have f5 := OQ.out; have f6 := OU.out; have f7 := OX.out; have f8 := OY.out; have f9 := OZ.out; have f10 := OT.out; have f11 := OS.out; have f12 := ORNA.out; have f13 := ORNB.out; have f14 := ON.out; have f15 := OV.out; have ft := HTB.out; omega))
  have NRB := hid (six_free PX.out.2.2 PY.out.2.2 PZ.out.2.2 PT.out.2.2 PS.out.2.2 PV.out.2.2 (g := gb) (by have f0 := ORA.out; have f1 := ORB.out; have f2 := ORC.out; have f3 := ORD.out; have f4 := OW.out; have f5 := OQ.out; have f6 := OU.out; have f7 := OX.out; have f8 := OY.out; have f9 := OZ.out; have f10 := OT.out; have f11 := OS.out; have f12 := ORNA.out; have f13 := ORNB.out; have f14 := ON.out; have f15 := OV.out; have ft := HTB.out; omega))
  have NRC := hid (six_free PX.out.2.2 PY.out.2.2 PZ.out.2.2 PT.out.2.2 PS.out.2.2 PV.out.2.2 (g := gc) (by have f0 := ORA.out; have f1 := ORB.out; have f2 := ORC.out; have f3 := ORD.out; have f4 := OW.out; have f5 := OQ.out; have f6 := OU.out; have f7 := OX.out; have f8 := OY.out; have f9 := OZ.out; have f10 := OT.out; have f11 := OS.out; have f12 := ORNA.out; have f13 := ORNB.out; have f14 := ON.out; have f15 := OV.out; have ft := HTB.out; omega))
  have NRD := hid (six_free PX.out.2.2 PY.out.2.2 PZ.out.2.2 PT.out.2.2 PS.out.2.2 PV.out.2.2 (g := gd) (by have f0 := ORA.out; have f1 := ORB.out; have f2 := ORC.out; have f3 := ORD.out; have f4 := OW.out; have f5 := OQ.out; have f6 := OU.out; have f7 := OX.out; have f8 := OY.out; have f9 := OZ.out; have f10 := OT.out; have f11 := OS.out; have f12 := ORNA.out; have f13 := ORNB.out; have f14 := ON.out; have f15 := OV.out; have ft := HTB.out; omega))
  have NRNA := hid (six_free PX.out.2.2 PY.out.2.2 PZ.out.2.2 PT.out.2.2 PS.out.2.2 PV.out.2.2 (g := gna) (by have f0 := ORA.out; have f1 := ORB.out; have f2 := ORC.out; have f3 := ORD.out; have f4 := OW.out; have f5 := OQ.out; have f6 := OU.out; have f7 := OX.out; have f8 := OY.out; have f9 := OZ.out; have f10 := OT.out; have f11 := OS.out; have f12 := ORNA.out; have f13 := ORNB.out; have f14 := ON.out; have f15 := OV.out; have ft := HTB.out; omega))
  have NRNB := hid (six_free PX.out.2.2 PY.out.2.2 PZ.out.2.2 PT.out.2.2 PS.out.2.2 PV.out.2.2 (g := gnb) (by have f0 := ORA.out; have f1 := ORB.out; have f2 := ORC.out; have f3 := ORD.out; have f4 := OW.out; have f5 := OQ.out; have f6 := OU.out; have f7 := OX.out; have f8 := OY.out; have f9 := OZ.out; have f10 := OT.out; have f11 := OS.out; have f12 := ORNA.out; have f13 := ORNB.out; have f14 := ON.out; have f15 := OV.out; have ft := HTB.out; omega))
  have NN6 : Hid (∀ g, bn1 ≤ g → g < cn1' → ¬ Blk 6 (six (.slice ax1 X.length qx1) (.slice ay1 Y.length qy1) (.slice az1 Z.length qz1) (.slice at1 T.length qt1) (.slice as1 S.length qs1) (.slice av1 V.length qv1)) g) := fun g g1 g2 => (six_free PX.out.2.2 PY.out.2.2 PZ.out.2.2 PT.out.2.2 PS.out.2.2 PV.out.2.2 (g := g) (by have f0 := ORA.out; have f1 := ORB.out; have f2 := ORC.out; have f3 := ORD.out; have f4 := OW.out; have f5 := OQ.out; have f6 := OU.out; have f7 := OX.out; have f8 := OY.out; have f9 := OZ.out; have f10 := OT.out; have f11 := OS.out; have f12 := ORNA.out; have f13 := ORNB.out; have f14 := ON.out; have f15 := OV.out; have ft := HTB.out; omega))
  have NX6 : Hid (∀ g, Blk 6 (six (.slice ax1 X.length qx1) (.slice ay1 Y.length qy1) (.slice az1 Z.length qz1) (.slice at1 T.length qt1) (.slice as1 S.length qs1) (.slice av1 V.length qv1)) g → w.heap.size + 1 < g) := fun g hg => six_low PX.out.2.2 PY.out.2.2 PZ.out.2.2 PT.out.2.2 PS.out.2.2 PV.out.2.2 (m := w.heap.size + 1) (by have f0 := ORA.out; have f1 := ORB.out; have f2 := ORC.out; have f3 := ORD.out; have f4 := OW.out; have f5 := OQ.out; have f6 := OU.out; have f7 := OX.out; have f8 := OY.out; have f9 := OZ.out; have f10 := OT.out; have f11 := OS.out; have f12 := ORNA.out; have f13 := ORNB.out; have f14 := ON.out; have f15 := OV.out; have ft := HTB.out; omega) hg
  refine (apart_yes hbk hd1 hd2).mono ?_
  rintro e w32 ⟨rfl, tt⟩
  have HTOP2 : Hid (cv1' ≤ w32.heap.size) := by unfold Hid; have h1 := HTB.out; have h2 := tt.size; omega
  have X32 := hid (XB.out.touch tt NX6.out)
  have RA' : Hid (Rm w32 ga (xs.map turnW)) := tt.row RA.out NRA.out
  clear RA NRA
  have RA := RA'
  clear RA'
  have RB' : Hid (Rm w32 gb (ys.map turnW)) := tt.row RB.out NRB.out
  clear RB NRB
  have RB := RB'
  clear RB'
  have RC' : Hid (Rm w32 gc us) := tt.row RC.out NRC.out
  clear RC NRC
  have RC := RC'
  clear RC'
  have RD' : Hid (Rm w32 gd vs) := tt.row RD.out NRD.out
  clear RD NRD
  have RD := RD'
  clear RD'
  have RNA' : Hid (Row w32 gna (ws (xs.map turnW))) := tt.row RNA.out NRNA.out
  clear RNA NRNA
  have RNA := RNA'
  clear RNA'
  have RNB' : Hid (Row w32 gnb (ws (ys.map turnW))) := tt.row RNB.out NRNB.out
  clear RNB NRNB
  have RNB := RNB'
  clear RNB'
  have PN' := hid (PN.out.touch tt NN6.out)
  clear PN
  have PN := PN'
  clear PN'
  clear HTOP HTB
  have HTOP := HTOP2
  clear HTOP2 hbk hd0 hd1 hd2 hit kk hsz tt XB NN6 NX6
  clear PX CX VX LX
  clear PY CY VY LY
  clear PZ CZ VZ LZ
  clear PT CT VT LT
  clear PS CS VS LS
  clear PV CV VV LV
  clear PW CW VW LW
  have o0 := X32.out.cell 0
  have p0 := X32.out.cell' 0
  have o1 := X32.out.cell 1
  have p1 := X32.out.cell' 1
  have o2 := X32.out.cell 2
  have p2 := X32.out.cell' 2
  have o3 := X32.out.cell 3
  have p3 := X32.out.cell' 3
  simp only [List.getElem?_toArray, List.getElem?_cons_succ, List.getElem?_cons_zero] at o0 o1 o2 o3 p0 p1 p2 p3
  go_wp2_with fail
  refine (list_own (RA.out.part WXT.out LXT.out (by omega)) (RB.out.part WYT.out LYT.out (by omega)) (by rw [LXT.out]; omega) (by rw [LYT.out]; omega) kind hn).mono ?_
  rintro e w33 ⟨R, vr1, rfl, or1, cr1, hr1, kk⟩
  have CR := hid cr1
  have VR := hid hr1
  have LR := hid or1.2
  obtain ⟨br1, eb⟩ : ∃ b, w32.heap.size = b := ⟨_, rfl⟩
  obtain ⟨cr1', ec⟩ : ∃ c, w33.heap.size = c := ⟨_, rfl⟩
  have PR : Hid (Pl br1 cr1' w33 vr1 R) := by unfold Hid; rw [eb] at or1; exact Pl.of or1 ec
  have OR : Hid (cv1' ≤ br1 ∧ br1 ≤ cr1') := by unfold Hid; have h1 := HTOP.out; have h2 := kk.size; omega
  have X33 := hid (X32.out.step kk)
  have RA' := hid (RA.out.step kk)
  clear RA
  have RA := RA'
  clear RA'
  have RB' := hid (RB.out.step kk)
  clear RB
  have RB := RB'
  clear RB'
  have RC' := hid (RC.out.step kk)
  clear RC
  have RC := RC'
  clear RC'
  have RD' := hid (RD.out.step kk)
  clear RD
  have RD := RD'
  clear RD'
  have RNA' := hid (RNA.out.step kk)
  clear RNA
  have RNA := RNA'
  clear RNA'
  have RNB' := hid (RNB.out.step kk)
  clear RNB
  have RNB := RNB'
  clear RNB'
  have PN' := hid (PN.out.step kk)
  clear PN
  have PN := PN'
  clear PN'
  clear X32 o0 o1 o2 o3 p0 p1 p2 p3
  have HTOP2 : Hid (cr1' ≤ w33.heap.size) := by unfold Hid; omega
  clear HTOP eb ec kk or1 cr1 hr1
  have HTOP := HTOP2
  clear HTOP2
  obtain ⟨ar1, qr1, ev⟩ := PR.out.form
  subst ev
  have o0 := X33.out.cell 0
  have p0 := X33.out.cell' 0
  have o1 := X33.out.cell 1
  have p1 := X33.out.cell' 1
  have o2 := X33.out.cell 2
  have p2 := X33.out.cell' 2
  have o3 := X33.out.cell 3
  have p3 := X33.out.cell' 3
  simp only [List.getElem?_toArray, List.getElem?_cons_succ, List.getElem?_cons_zero] at o0 o1 o2 o3 p0 p1 p2 p3
  go_wp2_with fail
  refine (same_yes PR.out.sl PN.out.sl (canon_vn CR.out CN.out (by rw [VR.out, VN.out]))).mono ?_
  rintro e w34 ⟨rfl, kk⟩
  have HTOP2 : Hid (cr1' ≤ w34.heap.size) := by unfold Hid; exact Nat.le_trans HTOP.out kk.size
  clear HTOP
  have HTOP := HTOP2
  clear HTOP2
  have X34 := hid (X33.out.step kk)
  have RA' := hid (RA.out.step kk)
  clear RA
  have RA := RA'
  clear RA'
  have RB' := hid (RB.out.step kk)
  clear RB
  have RB := RB'
  clear RB'
  have RC' := hid (RC.out.step kk)
  clear RC
  have RC := RC'
  clear RC'
  have RD' := hid (RD.out.step kk)
  clear RD
  have RD := RD'
  clear RD'
  have RNA' := hid (RNA.out.step kk)
  clear RNA
  have RNA := RNA'
  clear RNA'
  have RNB' := hid (RNB.out.step kk)
  clear RNB
  have RNB := RNB'
  clear RNB'
  have PN' := hid (PN.out.step kk)
  clear PN
  have PN := PN'
  clear PN'
  have PR' := hid (PR.out.step kk)
  clear PR
  have PR := PR'
  clear PR'
  clear X33 o0 o1 o2 o3 p0 p1 p2 p3
  clear kk
  have o0 := X34.out.cell 0
  have p0 := X34.out.cell' 0
  have o1 := X34.out.cell 1
  have p1 := X34.out.cell' 1
  have o2 := X34.out.cell 2
  have p2 := X34.out.cell' 2
  have o3 := X34.out.cell 3
  have p3 := X34.out.cell' 3
  simp only [List.getElem?_toArray, List.getElem?_cons_succ, List.getElem?_cons_zero] at o0 o1 o2 o3 p0 p1 p2 p3
  go_wp2_with fail
  refine (kept_now (RA.out.full WXT.out LXT.out (by omega)) (RNA.out.whole WXT.out LXT.out (by omega)) rfl).mono ?_
  rintro e w35 ⟨rfl, kk⟩
  have HTOP2 : Hid (cr1' ≤ w35.heap.size) := by unfold Hid; exact Nat.le_trans HTOP.out kk.size
  clear HTOP
  have HTOP := HTOP2
  clear HTOP2
  have X35 := hid (X34.out.step kk)
  have RA' := hid (RA.out.step kk)
  clear RA
  have RA := RA'
  clear RA'
  have RB' := hid (RB.out.step kk)
  clear RB
  have RB := RB'
  clear RB'
  have RC' := hid (RC.out.step kk)
  clear RC
  have RC := RC'
  clear RC'
  have RD' := hid (RD.out.step kk)
  clear RD
  have RD := RD'
  clear RD'
  have RNA' := hid (RNA.out.step kk)
  clear RNA
  have RNA := RNA'
  clear RNA'
  have RNB' := hid (RNB.out.step kk)
  clear RNB
  have RNB := RNB'
  clear RNB'
  have PN' := hid (PN.out.step kk)
  clear PN
  have PN := PN'
  clear PN'
  have PR' := hid (PR.out.step kk)
  clear PR
  have PR := PR'
  clear PR'
  clear X34 o0 o1 o2 o3 p0 p1 p2 p3
  clear kk
  have o0 := X35.out.cell 0
  have p0 := X35.out.cell' 0
  have o1 := X35.out.cell 1
  have p1 := X35.out.cell' 1
  have o2 := X35.out.cell 2
  have p2 := X35.out.cell' 2
  have o3 := X35.out.cell 3
  have p3 := X35.out.cell' 3
  simp only [List.getElem?_toArray, List.getElem?_cons_succ, List.getElem?_cons_zero] at o0 o1 o2 o3 p0 p1 p2 p3
  go_wp2_with fail
  refine (kept_now (RB.out.full WYT.out LYT.out (by omega)) (RNB.out.whole WYT.out LYT.out (by omega)) rfl).mono ?_
  rintro e w36 ⟨rfl, kk⟩
  have HTOP2 : Hid (cr1' ≤ w36.heap.size) := by unfold Hid; exact Nat.le_trans HTOP.out kk.size
  clear HTOP
  have HTOP := HTOP2
  clear HTOP2
  have X36 := hid (X35.out.step kk)
  have RA' := hid (RA.out.step kk)
  clear RA
  have RA := RA'
  clear RA'
  have RB' := hid (RB.out.step kk)
  clear RB
  have RB := RB'
  clear RB'
  have RC' := hid (RC.out.step kk)
  clear RC
  have RC := RC'
  clear RC'
  have RD' := hid (RD.out.step kk)
  clear RD
  have RD := RD'
  clear RD'
  have RNA' := hid (RNA.out.step kk)
  clear RNA
  have RNA := RNA'
  clear RNA'
  have RNB' := hid (RNB.out.step kk)
  clear RNB
  have RNB := RNB'
  clear RNB'
  have PN' := hid (PN.out.step kk)
  clear PN
  have PN := PN'
  clear PN'
  have PR' := hid (PR.out.step kk)
  clear PR
  have PR := PR'
  clear PR'
  clear X35 o0 o1 o2 o3 p0 p1 p2 p3
  clear kk
  have o0 := X36.out.cell 0
  have p0 := X36.out.cell' 0
  have o1 := X36.out.cell 1
  have p1 := X36.out.cell' 1
  have o2 := X36.out.cell 2
  have p2 := X36.out.cell' 2
  have o3 := X36.out.cell 3
  have p3 := X36.out.cell' 3
  simp only [List.getElem?_toArray, List.getElem?_cons_succ, List.getElem?_cons_zero] at o0 o1 o2 o3 p0 p1 p2 p3
  go_wp2_with fail
  refine (kept_now (RC.out.full WU.out HM2.out (by omega)) (HC.out.now X36.out.1) rfl).mono ?_
  rintro e w37 ⟨rfl, kk⟩
  have HTOP2 : Hid (cr1' ≤ w37.heap.size) := by unfold Hid; exact Nat.le_trans HTOP.out kk.size
  clear HTOP
  have HTOP := HTOP2
  clear HTOP2
  have X37 := hid (X36.out.step kk)
  have RA' := hid (RA.out.step kk)
  clear RA
  have RA := RA'
  clear RA'
  have RB' := hid (RB.out.step kk)
  clear RB
  have RB := RB'
  clear RB'
  have RC' := hid (RC.out.step kk)
  clear RC
  have RC := RC'
  clear RC'
  have RD' := hid (RD.out.step kk)
  clear RD
  have RD := RD'
  clear RD'
  have RNA' := hid (RNA.out.step kk)
  clear RNA
  have RNA := RNA'
  clear RNA'
  have RNB' := hid (RNB.out.step kk)
  clear RNB
  have RNB := RNB'
  clear RNB'
  have PN' := hid (PN.out.step kk)
  clear PN
  have PN := PN'
  clear PN'
  have PR' := hid (PR.out.step kk)
  clear PR
  have PR := PR'
  clear PR'
  clear X36 o0 o1 o2 o3 p0 p1 p2 p3
  clear kk
  have o0 := X37.out.cell 0
  have p0 := X37.out.cell' 0
  have o1 := X37.out.cell 1
  have p1 := X37.out.cell' 1
  have o2 := X37.out.cell 2
  have p2 := X37.out.cell' 2
  have o3 := X37.out.cell 3
  have p3 := X37.out.cell' 3
  simp only [List.getElem?_toArray, List.getElem?_cons_succ, List.getElem?_cons_zero] at o0 o1 o2 o3 p0 p1 p2 p3
  go_wp2_with fail
  refine (kept_now (RD.out.full WV.out HL2.out (by omega)) (HD.out.now X37.out.1) rfl).mono ?_
  rintro e w38 ⟨rfl, kk⟩
  have HTOP2 : Hid (cr1' ≤ w38.heap.size) := by unfold Hid; exact Nat.le_trans HTOP.out kk.size
  clear HTOP
  have HTOP := HTOP2
  clear HTOP2
  have X38 := hid (X37.out.step kk)
  have RA' := hid (RA.out.step kk)
  clear RA
  have RA := RA'
  clear RA'
  have RB' := hid (RB.out.step kk)
  clear RB
  have RB := RB'
  clear RB'
  have RC' := hid (RC.out.step kk)
  clear RC
  have RC := RC'
  clear RC'
  have RD' := hid (RD.out.step kk)
  clear RD
  have RD := RD'
  clear RD'
  have RNA' := hid (RNA.out.step kk)
  clear RNA
  have RNA := RNA'
  clear RNA'
  have RNB' := hid (RNB.out.step kk)
  clear RNB
  have RNB := RNB'
  clear RNB'
  have PN' := hid (PN.out.step kk)
  clear PN
  have PN := PN'
  clear PN'
  have PR' := hid (PR.out.step kk)
  clear PR
  have PR := PR'
  clear PR'
  clear X37 o0 o1 o2 o3 p0 p1 p2 p3
  clear kk
  have o0 := X38.out.cell 0
  have p0 := X38.out.cell' 0
  have o1 := X38.out.cell 1
  have p1 := X38.out.cell' 1
  have o2 := X38.out.cell 2
  have p2 := X38.out.cell' 2
  have o3 := X38.out.cell 3
  have p3 := X38.out.cell' 3
  simp only [List.getElem?_toArray, List.getElem?_cons_succ, List.getElem?_cons_zero] at o0 o1 o2 o3 p0 p1 p2 p3
  go_wp2_with fail
  refine (counts_yes (HA.out.now X38.out.1) (HB.out.now X38.out.1) (HT.out.now X38.out.1) (by rw [HM.out]; omega) (by rw [HL.out]; omega) kind hn0 hn).mono ?_
  rintro e w39 ⟨rfl, kk⟩
  have X39 := hid (X38.out.step kk)
  clear o0 o1 o2 o3 p0 p1 p2 p3 kk
  go_wp2
  go_ret
  exact ⟨rfl, X39.out.1⟩
end Go.Proofs.YtagfekcocdjhlaaDoor
