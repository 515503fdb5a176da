/-
  Counts: the calls that answer numbers, over lists with marked spare room.
-/
import Derived.Test.YtagfekcocdjhlaaDoorRooms
namespace Go.Proofs.YtagfekcocdjhlaaDoor
open Go.RowKit
set_option linter.unusedVariables false

set_option maxRecDepth 100000 in
set_option maxHeartbeats 6400000 in
theorem counts_yes {w : World} {va vb : Value} {xs ys : List Int} (ha : Sl w.heap.size w va xs) (hb : Sl w.heap.size w vb ys) (hT : Tab w) (la : xs.length ≤ 1048576) (lb : ys.length ≤ 1048576) (kind : Int) {n : Int} (hn0 : -9223372036854775808 ≤ n) (hn : n ≤ 9223372036854775807) :
    Calls Tryd.prog 13 #[.agg #[.int .i64 kind, va, vb, .int .i64 n]] w fun e w' => e = .returned (.bool true) ∧ Below w.heap.size w w' := by
  have HA := hid ha
  have HB := hid hb
  have HT := hid hT
  have WX := hid ha.1
  have WY := hid hb.1
  obtain ⟨aa, ca, rfl⟩ : ∃ aa ca, va = .slice aa xs.length ca := by obtain ⟨_, aa, ca, e, _⟩ := ha; exact ⟨aa, ca, e⟩
  obtain ⟨ab, cb, rfl⟩ : ∃ ab cb, vb = .slice ab ys.length cb := by obtain ⟨_, ab, cb, e, _⟩ := hb; exact ⟨ab, cb, e⟩
  obtain ⟨m, hm⟩ : ∃ m, xs.length = m := ⟨_, rfl⟩
  obtain ⟨l, hl⟩ : ∃ l, ys.length = l := ⟨_, rfl⟩
  rw [hm] at HA la ⊢
  rw [hl] at HB lb ⊢
  have HM := hid hm
  have HL := hid hl
  clear ha hb hT hm hl
  go_enter Tryd.func13, Tryd.ntmps13
  go_wp2_with fail
  go_loopw [3] (fun i wr => ∃ k : Nat, 4 ≤ k ∧ k ≤ 11 ∧ i = .int .i64 k ∧ Hid (Bx w (.cells #[.int .i64 kind, .slice aa m ca, .slice ab l cb, .int .i64 n] 24) wr)) (fun i _ => 11 - (intOf i).toNat)
  case atStart => exact ⟨4, by omega, by omega, rfl, Bx.start _ _⟩
  case round =>
    obtain ⟨k, hk4, hk, rfl, X0⟩ := hrel
    by_cases hle : k ≤ 10
    · by_cases hsk : 4 < k ∧ k < 8
      · obtain ⟨h4, h8⟩ := hsk
        go_wp2
        go_roundw
        case rel => exact ⟨k + 1, by omega, by omega, by go_num, X0⟩
        case measure => simp [intOf]; omega
      · obtain ⟨κ, hκ⟩ : ∃ κ : Int, κ = k := ⟨_, rfl⟩
        have hcase : k = 4 ∨ 8 ≤ k := by omega
        rcases hcase with hq | hq
        · have hk5 : k ≤ 4 := by omega
          clear hsk hq hκ
          have c1 := X0.out.cell 1
          have c2 := X0.out.cell 2
          have c3 := X0.out.cell 3
          simp only [List.getElem?_toArray, List.getElem?_cons_succ, List.getElem?_cons_zero] at c1 c2 c3
          go_wp2_with fail
          refine (roomy_any (HA.out.now X0.out.1) (by rw [HM.out]; omega)).mono ?_
          rintro e w1 ⟨rfl, r1, k1⟩
          rw [HM.out]
          have hga := X0.out.lt
          have X1 := hid (X0.out.step k1)
          clear X0 c1 c2 c3
          have RA : Hid (Rm w1 wr.heap.size xs) := r1
          clear r1 k1
          generalize wr.heap.size = ga at *
          have c1 := X1.out.cell 1
          have c2 := X1.out.cell 2
          have c3 := X1.out.cell 3
          simp only [List.getElem?_toArray, List.getElem?_cons_succ, List.getElem?_cons_zero] at c1 c2 c3
          go_wp2_with fail
          refine (roomy_any (HB.out.now X1.out.1) (by rw [HL.out]; omega)).mono ?_
          rintro e w2 ⟨rfl, r2, k2⟩
          rw [HL.out]
          have hgb := RA.out.lt
          have X2 := hid (X1.out.step k2)
          have RA' := hid (RA.out.step k2)
          clear RA
          have RA := RA'
          clear RA'
          clear X1 c1 c2 c3
          have RB : Hid (Rm w2 w1.heap.size ys) := r2
          clear r2 k2
          generalize w1.heap.size = gb at *
          have c1 := X2.out.cell 1
          have c2 := X2.out.cell 2
          have c3 := X2.out.cell 3
          simp only [List.getElem?_toArray, List.getElem?_cons_succ, List.getElem?_cons_zero] at c1 c2 c3
          go_wp2_with fail
          refine (wantedNumber_any (HA.out.now X2.out.1) (HB.out.now X2.out.1) (HT.out.now X2.out.1) (by rw [HM.out]; omega) (by rw [HL.out]; omega) k hn0 hn).mono ?_
          rintro e w3 ⟨rwn, rfl, qrwn, kk⟩
          have Nrwn := hid qrwn
          clear qrwn
          have X3 := hid (X2.out.step kk)
          have RA' := hid (RA.out.step kk)
          clear RA
          have RA := RA'
          clear RA'
          have RB' := hid (RB.out.step kk)
          clear RB
          have RB := RB'
          clear RB'
          clear X2 c1 c2 c3
          clear kk
          have c1 := X3.out.cell 1
          have c2 := X3.out.cell 2
          have c3 := X3.out.cell 3
          simp only [List.getElem?_toArray, List.getElem?_cons_succ, List.getElem?_cons_zero] at c1 c2 c3
          go_wp2_with fail
          refine (wantedNumber_any (HA.out.now X3.out.1) (HA.out.now X3.out.1) (HT.out.now X3.out.1) (by rw [HM.out]; omega) (by rw [HM.out]; omega) k hn0 hn).mono ?_
          rintro e w4 ⟨rt, rfl, qrt, kk⟩
          have Nrt := hid qrt
          clear qrt
          have X4 := hid (X3.out.step kk)
          have RA' := hid (RA.out.step kk)
          clear RA
          have RA := RA'
          clear RA'
          have RB' := hid (RB.out.step kk)
          clear RB
          have RB := RB'
          clear RB'
          clear X3 c1 c2 c3
          clear kk
          have hne1 : (rt != rt) = false := by simp
          have hne2 : (rwn != rwn) = false := by simp
          have c1 := X4.out.cell 1
          have c2 := X4.out.cell 2
          have c3 := X4.out.cell 3
          simp only [List.getElem?_toArray, List.getElem?_cons_succ, List.getElem?_cons_zero] at c1 c2 c3
          go_wp2_with fail
          refine (number_any (RA.out.part WX.out HM.out (by omega)) (RA.out.part WX.out HM.out (by omega)) (HT.out.now X4.out.1) (by rw [HM.out]; omega) (by rw [HM.out]; omega) k hn0 hn).mono ?_
          rintro e w5 ⟨r1, rfl, qr1, kk⟩
          obtain rfl : rt = r1 := numIs_unique Nrt.out qr1
          clear qr1
          have X5 := hid (X4.out.step kk)
          have RA' := hid (RA.out.step kk)
          clear RA
          have RA := RA'
          clear RA'
          have RB' := hid (RB.out.step kk)
          clear RB
          have RB := RB'
          clear RB'
          clear X4 c1 c2 c3
          clear kk
          have c1 := X5.out.cell 1
          have c2 := X5.out.cell 2
          have c3 := X5.out.cell 3
          simp only [List.getElem?_toArray, List.getElem?_cons_succ, List.getElem?_cons_zero] at c1 c2 c3
          go_wp2_with fail
          refine (number_any (RA.out.part WX.out HM.out (by omega)) (RB.out.part WY.out HL.out (by omega)) (HT.out.now X5.out.1) (by rw [HM.out]; omega) (by rw [HL.out]; omega) k hn0 hn).mono ?_
          rintro e w6 ⟨r2, rfl, qr2, kk⟩
          obtain rfl : rwn = r2 := numIs_unique Nrwn.out qr2
          clear qr2
          have X6 := hid (X5.out.step kk)
          have RA' := hid (RA.out.step kk)
          clear RA
          have RA := RA'
          clear RA'
          have RB' := hid (RB.out.step kk)
          clear RB
          have RB := RB'
          clear RB'
          clear X5 c1 c2 c3
          clear kk
          have c1 := X6.out.cell 1
          have c2 := X6.out.cell 2
          have c3 := X6.out.cell 3
          simp only [List.getElem?_toArray, List.getElem?_cons_succ, List.getElem?_cons_zero] at c1 c2 c3
          go_wp2_with fail
          refine (number_any (RA.out.part WX.out HM.out (by omega)) (RB.out.part WY.out HL.out (by omega)) (HT.out.now X6.out.1) (by rw [HM.out]; omega) (by rw [HL.out]; omega) k hn0 hn).mono ?_
          rintro e w7 ⟨r3, rfl, qr3, kk⟩
          obtain rfl : rwn = r3 := numIs_unique Nrwn.out qr3
          clear qr3
          have X7 := hid (X6.out.step kk)
          have RA' := hid (RA.out.step kk)
          clear RA
          have RA := RA'
          clear RA'
          have RB' := hid (RB.out.step kk)
          clear RB
          have RB := RB'
          clear RB'
          clear X6 c1 c2 c3
          clear kk
          have c1 := X7.out.cell 1
          have c2 := X7.out.cell 2
          have c3 := X7.out.cell 3
          simp only [List.getElem?_toArray, List.getElem?_cons_succ, List.getElem?_cons_zero] at c1 c2 c3
          go_wp2_with fail
          refine (kept_now (RA.out.full WX.out HM.out (by omega)) (HA.out.now X7.out.1) rfl).mono ?_
          rintro e w8 ⟨rfl, kk⟩
          have X8 := hid (X7.out.step kk)
          have RA' := hid (RA.out.step kk)
          clear RA
          have RA := RA'
          clear RA'
          have RB' := hid (RB.out.step kk)
          clear RB
          have RB := RB'
          clear RB'
          clear X7 c1 c2 c3
          clear kk
          have c1 := X8.out.cell 1
          have c2 := X8.out.cell 2
          have c3 := X8.out.cell 3
          simp only [List.getElem?_toArray, List.getElem?_cons_succ, List.getElem?_cons_zero] at c1 c2 c3
          go_wp2_with fail
          refine (kept_now (RB.out.full WY.out HL.out (by omega)) (HB.out.now X8.out.1) rfl).mono ?_
          rintro e w9 ⟨rfl, kk⟩
          have X9 := hid (X8.out.step kk)
          have RA' := hid (RA.out.step kk)
          clear RA
          have RA := RA'
          clear RA'
          have RB' := hid (RB.out.step kk)
          clear RB
          have RB := RB'
          clear RB'
          clear X8 c1 c2 c3
          clear kk
          have c1 := X9.out.cell 1
          have c2 := X9.out.cell 2
          have c3 := X9.out.cell 3
          simp only [List.getElem?_toArray, List.getElem?_cons_succ, List.getElem?_cons_zero] at c1 c2 c3
          go_wp2_with fail
          refine (turned_any (HA.out.now X9.out.1)).mono ?_
          rintro e w10 ⟨rfl, tt, kk⟩
          rw [HM.out]
          have hgna : gb < w9.heap.size := RB.out.lt
          have X10 := hid (X9.out.step kk)
          have RA' := hid (RA.out.step kk)
          clear RA
          have RA := RA'
          clear RA'
          have RB' := hid (RB.out.step kk)
          clear RB
          have RB := RB'
          clear RB'
          clear X9 c1 c2 c3
          have RNA : Hid (Row w10 w9.heap.size (ws (xs.map turnW))) := tt
          clear tt kk
          generalize w9.heap.size = gna at *
          have c1 := X10.out.cell 1
          have c2 := X10.out.cell 2
          have c3 := X10.out.cell 3
          simp only [List.getElem?_toArray, List.getElem?_cons_succ, List.getElem?_cons_zero] at c1 c2 c3
          go_wp2_with fail
          refine (turned_any (HB.out.now X10.out.1)).mono ?_
          rintro e w11 ⟨rfl, tt, kk⟩
          rw [HL.out]
          have hgnb : gb < w10.heap.size := RB.out.lt
          have hnn : gna < w10.heap.size := RNA.out.lt
          have X11 := hid (X10.out.step kk)
          have RA' := hid (RA.out.step kk)
          clear RA
          have RA := RA'
          clear RA'
          have RB' := hid (RB.out.step kk)
          clear RB
          have RB := RB'
          clear RB'
          have RNA' := hid (RNA.out.step kk)
          clear RNA
          have RNA := RNA'
          clear RNA'
          clear X10 c1 c2 c3
          have RNB : Hid (Row w11 w10.heap.size (ws (ys.map turnW))) := tt
          clear tt kk
          generalize w10.heap.size = gnb at *
          have WXT := hid (turn_wf WX.out)
          have WYT := hid (turn_wf WY.out)
          have LXT : Hid ((xs.map turnW).length = m) := by unfold Hid; rw [List.length_map]; exact HM.out
          have LYT : Hid ((ys.map turnW).length = l) := by unfold Hid; rw [List.length_map]; exact HL.out
          have c1 := X11.out.cell 1
          have c2 := X11.out.cell 2
          have c3 := X11.out.cell 3
          simp only [List.getElem?_toArray, List.getElem?_cons_succ, List.getElem?_cons_zero] at c1 c2 c3
          have rr : Row w11 ga (ws xs ++ ws (mrk xs.length)) := by rw [← ws_roomy]; exact RA.out
          have RRR := hid rr
          clear rr
          go_wp2_with (refine wpList_copy_over _ rfl (.tmp 102) (.tmp 103) rfl ga gna m (m + 80) m xs (xs.map turnW) (ws (mrk xs.length)) [] RRR.out (by simpa using RNA.out) HM.out LXT.out rfl rfl ?_)
          intro w12 hrow htt
          have RA2 : Hid (Rm w12 ga (xs.map turnW)) := Rm.over (by rw [List.length_map]) hrow.out
          have X12 := hid (X11.out.touch htt.out (by omega))
          have RB' := hid (RB.out.touch htt.out (by omega))
          clear RB
          have RB := RB'
          clear RB'
          have RNA' := hid (RNA.out.touch htt.out (by omega))
          clear RNA
          have RNA := RNA'
          clear RNA'
          have RNB' := hid (RNB.out.touch htt.out (by omega))
          clear RNB
          have RNB := RNB'
          clear RNB'
          clear X11 c1 c2 c3
          clear RA RRR hrow htt
          have RA := RA2
          clear RA2
          have c1 := X12.out.cell 1
          have c2 := X12.out.cell 2
          have c3 := X12.out.cell 3
          simp only [List.getElem?_toArray, List.getElem?_cons_succ, List.getElem?_cons_zero] at c1 c2 c3
          have rr : Row w12 gb (ws ys ++ ws (mrk ys.length)) := by rw [← ws_roomy]; exact RB.out
          have RRR := hid rr
          clear rr
          go_wp2_with (refine wpList_copy_over _ rfl (.tmp 105) (.tmp 106) rfl gb gnb l (l + 80) l ys (ys.map turnW) (ws (mrk ys.length)) [] RRR.out (by simpa using RNB.out) HL.out LYT.out rfl rfl ?_)
          intro w13 hrow htt
          have RB2 : Hid (Rm w13 gb (ys.map turnW)) := Rm.over (by rw [List.length_map]) hrow.out
          have X13 := hid (X12.out.touch htt.out (by omega))
          have RA' := hid (RA.out.touch htt.out (by omega))
          clear RA
          have RA := RA'
          clear RA'
          have RNA' := hid (RNA.out.touch htt.out (by omega))
          clear RNA
          have RNA := RNA'
          clear RNA'
          have RNB' := hid (RNB.out.touch htt.out (by omega))
          clear RNB
          have RNB := RNB'
          clear RNB'
          clear X12 c1 c2 c3
          clear RB RRR hrow htt
          have RB := RB2
          clear RB2
          generalize xs.map turnW = XT at *
          generalize ys.map turnW = YT at *
          have hkk : ((k : Int) == 4) = true := by rw [beq_iff_eq]; omega
          by_cases hm0 : 0 < m
          · by_cases hl0 : 0 < l
            · skip
              have hX0 : 0 < XT.length := by rw [LXT.out]; exact hm0
              have hY0 : 0 < YT.length := by rw [LYT.out]; exact hl0
              have q1 : w13.cell? ⟨gna, 0, none⟩ = some (.int .u64 XT[0]) := Row.word (r := []) (by simpa using RNA.out) hX0
              have f1 : w13.frozen? ⟨gna, 0, none⟩ = false := RNA.out.frozen _
              have tA := touch_set w13 gna 0 (.int .u64 0)
              have NA : Row (w13.setCell ⟨gna, 0, none⟩ (.int .u64 0)) gna (ws (XT.set 0 0)) := by have := Row.setWord (r := []) (by simpa using RNA.out) hX0 0; simpa using this
              have RA1 := RA.out.touch tA (by omega)
              have q2 : (w13.setCell ⟨gna, 0, none⟩ (.int .u64 0)).cell? ⟨ga, 0, none⟩ = some (.int .u64 XT[0]) := Row.word (by rw [← ws_roomy]; exact RA1) hX0
              have f2 : (w13.setCell ⟨gna, 0, none⟩ (.int .u64 0)).frozen? ⟨ga, 0, none⟩ = false := Row.frozen RA1 _
              have tB := touch_set (w13.setCell ⟨gna, 0, none⟩ (.int .u64 0)) ga 0 (.int .u64 0)
              have RA2 := RA1.set hX0 0
              have NB1 := (RNB.out.touch tA (by omega)).touch tB (by omega)
              have q3 : ((w13.setCell ⟨gna, 0, none⟩ (.int .u64 0)).setCell ⟨ga, 0, none⟩ (.int .u64 0)).cell? ⟨gnb, 0, none⟩ = some (.int .u64 YT[0]) := Row.word (r := []) (by simpa using NB1) hY0
              have f3 : ((w13.setCell ⟨gna, 0, none⟩ (.int .u64 0)).setCell ⟨ga, 0, none⟩ (.int .u64 0)).frozen? ⟨gnb, 0, none⟩ = false := Row.frozen NB1 _
              have tC := touch_set ((w13.setCell ⟨gna, 0, none⟩ (.int .u64 0)).setCell ⟨ga, 0, none⟩ (.int .u64 0)) gnb 0 (.int .u64 1)
              have NB2 : Row (((w13.setCell ⟨gna, 0, none⟩ (.int .u64 0)).setCell ⟨ga, 0, none⟩ (.int .u64 0)).setCell ⟨gnb, 0, none⟩ (.int .u64 1)) gnb (ws (YT.set 0 1)) := by have := Row.setWord (r := []) (by simpa using NB1) hY0 1; simpa using this
              have RB1 := ((RB.out.touch tA (by omega)).touch tB (by omega)).touch tC (by omega)
              have q4 : (((w13.setCell ⟨gna, 0, none⟩ (.int .u64 0)).setCell ⟨ga, 0, none⟩ (.int .u64 0)).setCell ⟨gnb, 0, none⟩ (.int .u64 1)).cell? ⟨gb, 0, none⟩ = some (.int .u64 YT[0]) := Row.word (by rw [← ws_roomy]; exact RB1) hY0
              have f4 : (((w13.setCell ⟨gna, 0, none⟩ (.int .u64 0)).setCell ⟨ga, 0, none⟩ (.int .u64 0)).setCell ⟨gnb, 0, none⟩ (.int .u64 1)).frozen? ⟨gb, 0, none⟩ = false := Row.frozen RB1 _
              have tD := touch_set (((w13.setCell ⟨gna, 0, none⟩ (.int .u64 0)).setCell ⟨ga, 0, none⟩ (.int .u64 0)).setCell ⟨gnb, 0, none⟩ (.int .u64 1)) gb 0 (.int .u64 1)
              have RBn : Hid (Rm ((((w13.setCell ⟨gna, 0, none⟩ (.int .u64 0)).setCell ⟨ga, 0, none⟩ (.int .u64 0)).setCell ⟨gnb, 0, none⟩ (.int .u64 1)).setCell ⟨gb, 0, none⟩ (.int .u64 1)) gb (YT.set 0 1)) := RB1.set hY0 1
              have RAn : Hid (Rm ((((w13.setCell ⟨gna, 0, none⟩ (.int .u64 0)).setCell ⟨ga, 0, none⟩ (.int .u64 0)).setCell ⟨gnb, 0, none⟩ (.int .u64 1)).setCell ⟨gb, 0, none⟩ (.int .u64 1)) ga (XT.set 0 0)) := (RA2.touch tC (by omega)).touch tD (by omega)
              have RNAn : Hid (Row ((((w13.setCell ⟨gna, 0, none⟩ (.int .u64 0)).setCell ⟨ga, 0, none⟩ (.int .u64 0)).setCell ⟨gnb, 0, none⟩ (.int .u64 1)).setCell ⟨gb, 0, none⟩ (.int .u64 1)) gna (ws (XT.set 0 0))) := ((NA.touch tB (by omega)).touch tC (by omega)).touch tD (by omega)
              have RNBn : Hid (Row ((((w13.setCell ⟨gna, 0, none⟩ (.int .u64 0)).setCell ⟨ga, 0, none⟩ (.int .u64 0)).setCell ⟨gnb, 0, none⟩ (.int .u64 1)).setCell ⟨gb, 0, none⟩ (.int .u64 1)) gnb (ws (YT.set 0 1))) := NB2.touch tD (by omega)
              have Xn := hid ((((X13.out.touch tA (by omega)).touch tB (by omega)).touch tC (by omega)).touch tD (by omega))
              have c3 := Xn.out.cell 3
              simp only [List.getElem?_toArray, List.getElem?_cons_succ, List.getElem?_cons_zero] at c3
              have WXn := hid (WXT.out.set0 (x := 0) (by omega))
              have WYn := hid (WYT.out.set0 (x := 1) (by omega))
              have LXn : Hid ((XT.set 0 0).length = m) := by unfold Hid; rw [List.length_set]; exact LXT.out
              have LYn : Hid ((YT.set 0 1).length = l) := by unfold Hid; rw [List.length_set]; exact LYT.out
              clear tA tB tC tD NA RA1 RA2 NB1 NB2 RB1 RA RB RNA RNB X13 WXT WYT LXT LYT
              generalize XT[0] = x0 at *
              generalize YT[0] = y0 at *
              generalize XT.set 0 0 = XN at *
              generalize YT.set 0 1 = YN at *
              go_wp2_with fail
              refine (wantedNumber_any (RNAn.out.whole WXn.out LXn.out (by omega)) (RNBn.out.whole WYn.out LYn.out (by omega)) (HT.out.now Xn.out.1) (by rw [LXn.out]; omega) (by rw [LYn.out]; omega) k hn0 hn).mono ?_
              rintro e w14 ⟨rv, rfl, qrv, kk⟩
              have Nrv := hid qrv
              have X14 := hid (Xn.out.step kk)
              have RA := hid (RAn.out.step kk)
              have RB := hid (RBn.out.step kk)
              have RNA := hid (RNAn.out.step kk)
              have RNB := hid (RNBn.out.step kk)
              have WXT := WXn
              have WYT := WYn
              have LXT := LXn
              have LYT := LYn
              clear kk qrv RAn RBn RNAn RNBn Xn WXn WYn LXn LYn c3 q1 f1 q2 f2 q3 f3 q4 f4
              have hne3 : (rv != rv) = false := by simp
              have c1 := X14.out.cell 1
              have c2 := X14.out.cell 2
              have c3 := X14.out.cell 3
              simp only [List.getElem?_toArray, List.getElem?_cons_succ, List.getElem?_cons_zero] at c1 c2 c3
              go_wp2_with fail
              refine (number_any (RA.out.part WXT.out LXT.out (by omega)) (RB.out.part WYT.out LYT.out (by omega)) (HT.out.now X14.out.1) (by rw [LXT.out]; omega) (by rw [LYT.out]; omega) k hn0 hn).mono ?_
              rintro e w15 ⟨r4, rfl, qr4, kk⟩
              obtain rfl : rv = r4 := numIs_unique Nrv.out qr4
              clear qr4
              have X15 := hid (X14.out.step kk)
              have RA' := hid (RA.out.step kk)
              clear RA
              have RA := RA'
              clear RA'
              have RB' := hid (RB.out.step kk)
              clear RB
              have RB := RB'
              clear RB'
              have RNA' := hid (RNA.out.step kk)
              clear RNA
              have RNA := RNA'
              clear RNA'
              have RNB' := hid (RNB.out.step kk)
              clear RNB
              have RNB := RNB'
              clear RNB'
              clear X14 c1 c2 c3
              clear kk
              have c1 := X15.out.cell 1
              have c2 := X15.out.cell 2
              have c3 := X15.out.cell 3
              simp only [List.getElem?_toArray, List.getElem?_cons_succ, List.getElem?_cons_zero] at c1 c2 c3
              go_wp2_with fail
              refine (kept_now (RA.out.full WXT.out LXT.out (by omega)) (RNA.out.whole WXT.out LXT.out (by omega)) rfl).mono ?_
              rintro e w16 ⟨rfl, kk⟩
              have X16 := hid (X15.out.step kk)
              have RA' := hid (RA.out.step kk)
              clear RA
              have RA := RA'
              clear RA'
              have RB' := hid (RB.out.step kk)
              clear RB
              have RB := RB'
              clear RB'
              have RNA' := hid (RNA.out.step kk)
              clear RNA
              have RNA := RNA'
              clear RNA'
              have RNB' := hid (RNB.out.step kk)
              clear RNB
              have RNB := RNB'
              clear RNB'
              clear X15 c1 c2 c3
              clear kk
              have c1 := X16.out.cell 1
              have c2 := X16.out.cell 2
              have c3 := X16.out.cell 3
              simp only [List.getElem?_toArray, List.getElem?_cons_succ, List.getElem?_cons_zero] at c1 c2 c3
              go_wp2_with fail
              refine (kept_now (RB.out.full WYT.out LYT.out (by omega)) (RNB.out.whole WYT.out LYT.out (by omega)) rfl).mono ?_
              rintro e w17 ⟨rfl, kk⟩
              have X17 := hid (X16.out.step kk)
              have RA' := hid (RA.out.step kk)
              clear RA
              have RA := RA'
              clear RA'
              have RB' := hid (RB.out.step kk)
              clear RB
              have RB := RB'
              clear RB'
              have RNA' := hid (RNA.out.step kk)
              clear RNA
              have RNA := RNA'
              clear RNA'
              have RNB' := hid (RNB.out.step kk)
              clear RNB
              have RNB := RNB'
              clear RNB'
              clear X16 c1 c2 c3
              clear kk
              go_wp2
              go_roundw
              case rel => exact ⟨k + 1, by omega, by omega, by go_num, X17⟩
              case measure => simp [intOf]; omega
            · skip
              have c1 := X13.out.cell 1
              have c2 := X13.out.cell 2
              have c3 := X13.out.cell 3
              simp only [List.getElem?_toArray, List.getElem?_cons_succ, List.getElem?_cons_zero] at c1 c2 c3
              go_wp2_with fail
              refine (wantedNumber_any (RNA.out.whole WXT.out LXT.out (by omega)) (RNB.out.whole WYT.out LYT.out (by omega)) (HT.out.now X13.out.1) (by rw [LXT.out]; omega) (by rw [LYT.out]; omega) k hn0 hn).mono ?_
              rintro e w14 ⟨rv, rfl, qrv, kk⟩
              have Nrv := hid qrv
              clear qrv
              have X14 := hid (X13.out.step kk)
              have RA' := hid (RA.out.step kk)
              clear RA
              have RA := RA'
              clear RA'
              have RB' := hid (RB.out.step kk)
              clear RB
              have RB := RB'
              clear RB'
              have RNA' := hid (RNA.out.step kk)
              clear RNA
              have RNA := RNA'
              clear RNA'
              have RNB' := hid (RNB.out.step kk)
              clear RNB
              have RNB := RNB'
              clear RNB'
              clear X13 c1 c2 c3
              clear kk
              have hne3 : (rv != rv) = false := by simp
              have c1 := X14.out.cell 1
              have c2 := X14.out.cell 2
              have c3 := X14.out.cell 3
              simp only [List.getElem?_toArray, List.getElem?_cons_succ, List.getElem?_cons_zero] at c1 c2 c3
              go_wp2_with fail
              refine (number_any (RA.out.part WXT.out LXT.out (by omega)) (RB.out.part WYT.out LYT.out (by omega)) (HT.out.now X14.out.1) (by rw [LXT.out]; omega) (by rw [LYT.out]; omega) k hn0 hn).mono ?_
              rintro e w15 ⟨r4, rfl, qr4, kk⟩
              obtain rfl : rv = r4 := numIs_unique Nrv.out qr4
              clear qr4
              have X15 := hid (X14.out.step kk)
              have RA' := hid (RA.out.step kk)
              clear RA
              have RA := RA'
              clear RA'
              have RB' := hid (RB.out.step kk)
              clear RB
              have RB := RB'
              clear RB'
              have RNA' := hid (RNA.out.step kk)
              clear RNA
              have RNA := RNA'
              clear RNA'
              have RNB' := hid (RNB.out.step kk)
              clear RNB
              have RNB := RNB'
              clear RNB'
              clear X14 c1 c2 c3
              clear kk
              have c1 := X15.out.cell 1
              have c2 := X15.out.cell 2
              have c3 := X15.out.cell 3
              simp only [List.getElem?_toArray, List.getElem?_cons_succ, List.getElem?_cons_zero] at c1 c2 c3
              go_wp2_with fail
              refine (kept_now (RA.out.full WXT.out LXT.out (by omega)) (RNA.out.whole WXT.out LXT.out (by omega)) rfl).mono ?_
              rintro e w16 ⟨rfl, kk⟩
              have X16 := hid (X15.out.step kk)
              have RA' := hid (RA.out.step kk)
              clear RA
              have RA := RA'
              clear RA'
              have RB' := hid (RB.out.step kk)
              clear RB
              have RB := RB'
              clear RB'
              have RNA' := hid (RNA.out.step kk)
              clear RNA
              have RNA := RNA'
              clear RNA'
              have RNB' := hid (RNB.out.step kk)
              clear RNB
              have RNB := RNB'
              clear RNB'
              clear X15 c1 c2 c3
              clear kk
              have c1 := X16.out.cell 1
              have c2 := X16.out.cell 2
              have c3 := X16.out.cell 3
              simp only [List.getElem?_toArray, List.getElem?_cons_succ, List.getElem?_cons_zero] at c1 c2 c3
              go_wp2_with fail
              refine (kept_now (RB.out.full WYT.out LYT.out (by omega)) (RNB.out.whole WYT.out LYT.out (by omega)) rfl).mono ?_
              rintro e w17 ⟨rfl, kk⟩
              have X17 := hid (X16.out.step kk)
              have RA' := hid (RA.out.step kk)
              clear RA
              have RA := RA'
              clear RA'
              have RB' := hid (RB.out.step kk)
              clear RB
              have RB := RB'
              clear RB'
              have RNA' := hid (RNA.out.step kk)
              clear RNA
              have RNA := RNA'
              clear RNA'
              have RNB' := hid (RNB.out.step kk)
              clear RNB
              have RNB := RNB'
              clear RNB'
              clear X16 c1 c2 c3
              clear kk
              go_wp2
              go_roundw
              case rel => exact ⟨k + 1, by omega, by omega, by go_num, X17⟩
              case measure => simp [intOf]; omega
          · skip
            have c1 := X13.out.cell 1
            have c2 := X13.out.cell 2
            have c3 := X13.out.cell 3
            simp only [List.getElem?_toArray, List.getElem?_cons_succ, List.getElem?_cons_zero] at c1 c2 c3
            go_wp2_with fail
            refine (wantedNumber_any (RNA.out.whole WXT.out LXT.out (by omega)) (RNB.out.whole WYT.out LYT.out (by omega)) (HT.out.now X13.out.1) (by rw [LXT.out]; omega) (by rw [LYT.out]; omega) k hn0 hn).mono ?_
            rintro e w14 ⟨rv, rfl, qrv, kk⟩
            have Nrv := hid qrv
            clear qrv
            have X14 := hid (X13.out.step kk)
            have RA' := hid (RA.out.step kk)
            clear RA
            have RA := RA'
            clear RA'
            have RB' := hid (RB.out.step kk)
            clear RB
            have RB := RB'
            clear RB'
            have RNA' := hid (RNA.out.step kk)
            clear RNA
            have RNA := RNA'
            clear RNA'
            have RNB' := hid (RNB.out.step kk)
            clear RNB
            have RNB := RNB'
            clear RNB'
            clear X13 c1 c2 c3
            clear kk
            have hne3 : (rv != rv) = false := by simp
            have c1 := X14.out.cell 1
            have c2 := X14.out.cell 2
            have c3 := X14.out.cell 3
            simp only [List.getElem?_toArray, List.getElem?_cons_succ, List.getElem?_cons_zero] at c1 c2 c3
            go_wp2_with fail
            refine (number_any (RA.out.part WXT.out LXT.out (by omega)) (RB.out.part WYT.out LYT.out (by omega)) (HT.out.now X14.out.1) (by rw [LXT.out]; omega) (by rw [LYT.out]; omega) k hn0 hn).mono ?_
            rintro e w15 ⟨r4, rfl, qr4, kk⟩
            obtain rfl : rv = r4 := numIs_unique Nrv.out qr4
            clear qr4
            have X15 := hid (X14.out.step kk)
            have RA' := hid (RA.out.step kk)
            clear RA
            have RA := RA'
            clear RA'
            have RB' := hid (RB.out.step kk)
            clear RB
            have RB := RB'
            clear RB'
            have RNA' := hid (RNA.out.step kk)
            clear RNA
            have RNA := RNA'
            clear RNA'
            have RNB' := hid (RNB.out.step kk)
            clear RNB
            have RNB := RNB'
            clear RNB'
            clear X14 c1 c2 c3
            clear kk
            have c1 := X15.out.cell 1
            have c2 := X15.out.cell 2
            have c3 := X15.out.cell 3
            simp only [List.getElem?_toArray, List.getElem?_cons_succ, List.getElem?_cons_zero] at c1 c2 c3
            go_wp2_with fail
            refine (kept_now (RA.out.full WXT.out LXT.out (by omega)) (RNA.out.whole WXT.out LXT.out (by omega)) rfl).mono ?_
            rintro e w16 ⟨rfl, kk⟩
            have X16 := hid (X15.out.step kk)
            have RA' := hid (RA.out.step kk)
            clear RA
            have RA := RA'
            clear RA'
            have RB' := hid (RB.out.step kk)
            clear RB
            have RB := RB'
            clear RB'
            have RNA' := hid (RNA.out.step kk)
            clear RNA
            have RNA := RNA'
            clear RNA'
            have RNB' := hid (RNB.out.step kk)
            clear RNB
            have RNB := RNB'
            clear RNB'
            clear X15 c1 c2 c3
            clear kk
            have c1 := X16.out.cell 1
            have c2 := X16.out.cell 2
            have c3 := X16.out.cell 3
            simp only [List.getElem?_toArray, List.getElem?_cons_succ, List.getElem?_cons_zero] at c1 c2 c3
            go_wp2_with fail
            refine (kept_now (RB.out.full WYT.out LYT.out (by omega)) (RNB.out.whole WYT.out LYT.out (by omega)) rfl).mono ?_
            rintro e w17 ⟨rfl, kk⟩
            have X17 := hid (X16.out.step kk)
            have RA' := hid (RA.out.step kk)
            clear RA
            have RA := RA'
            clear RA'
            have RB' := hid (RB.out.step kk)
            clear RB
            have RB := RB'
            clear RB'
            have RNA' := hid (RNA.out.step kk)
            clear RNA
            have RNA := RNA'
            clear RNA'
            have RNB' := hid (RNB.out.step kk)
            clear RNB
            have RNB := RNB'
            clear RNB'
            clear X16 c1 c2 c3
            clear kk
            go_wp2
            go_roundw
            case rel => exact ⟨k + 1, by omega, by omega, by go_num, X17⟩
            case measure => simp [intOf]; omega
        · clear hsk
          have c1 := X0.out.cell 1
          have c2 := X0.out.cell 2
          have c3 := X0.out.cell 3
          simp only [List.getElem?_toArray, List.getElem?_cons_succ, List.getElem?_cons_zero] at c1 c2 c3
          go_wp2_with fail
          refine (roomy_any (HA.out.now X0.out.1) (by rw [HM.out]; omega)).mono ?_
          rintro e w1 ⟨rfl, r1, k1⟩
          rw [HM.out]
          have hga := X0.out.lt
          have X1 := hid (X0.out.step k1)
          clear X0 c1 c2 c3
          have RA : Hid (Rm w1 wr.heap.size xs) := r1
          clear r1 k1
          generalize wr.heap.size = ga at *
          have c1 := X1.out.cell 1
          have c2 := X1.out.cell 2
          have c3 := X1.out.cell 3
          simp only [List.getElem?_toArray, List.getElem?_cons_succ, List.getElem?_cons_zero] at c1 c2 c3
          go_wp2_with fail
          refine (roomy_any (HB.out.now X1.out.1) (by rw [HL.out]; omega)).mono ?_
          rintro e w2 ⟨rfl, r2, k2⟩
          rw [HL.out]
          have hgb := RA.out.lt
          have X2 := hid (X1.out.step k2)
          have RA' := hid (RA.out.step k2)
          clear RA
          have RA := RA'
          clear RA'
          clear X1 c1 c2 c3
          have RB : Hid (Rm w2 w1.heap.size ys) := r2
          clear r2 k2
          generalize w1.heap.size = gb at *
          have c1 := X2.out.cell 1
          have c2 := X2.out.cell 2
          have c3 := X2.out.cell 3
          simp only [List.getElem?_toArray, List.getElem?_cons_succ, List.getElem?_cons_zero] at c1 c2 c3
          go_wp2_with fail
          refine (wantedNumber_any (HA.out.now X2.out.1) (HB.out.now X2.out.1) (HT.out.now X2.out.1) (by rw [HM.out]; omega) (by rw [HL.out]; omega) k hn0 hn).mono ?_
          rintro e w3 ⟨rwn, rfl, qrwn, kk⟩
          have Nrwn := hid qrwn
          clear qrwn
          have X3 := hid (X2.out.step kk)
          have RA' := hid (RA.out.step kk)
          clear RA
          have RA := RA'
          clear RA'
          have RB' := hid (RB.out.step kk)
          clear RB
          have RB := RB'
          clear RB'
          clear X2 c1 c2 c3
          clear kk
          have c1 := X3.out.cell 1
          have c2 := X3.out.cell 2
          have c3 := X3.out.cell 3
          simp only [List.getElem?_toArray, List.getElem?_cons_succ, List.getElem?_cons_zero] at c1 c2 c3
          go_wp2_with fail
          refine (wantedNumber_any (HA.out.now X3.out.1) (HA.out.now X3.out.1) (HT.out.now X3.out.1) (by rw [HM.out]; omega) (by rw [HM.out]; omega) k hn0 hn).mono ?_
          rintro e w4 ⟨rt, rfl, qrt, kk⟩
          have Nrt := hid qrt
          clear qrt
          have X4 := hid (X3.out.step kk)
          have RA' := hid (RA.out.step kk)
          clear RA
          have RA := RA'
          clear RA'
          have RB' := hid (RB.out.step kk)
          clear RB
          have RB := RB'
          clear RB'
          clear X3 c1 c2 c3
          clear kk
          have hne1 : (rt != rt) = false := by simp
          have hne2 : (rwn != rwn) = false := by simp
          have c1 := X4.out.cell 1
          have c2 := X4.out.cell 2
          have c3 := X4.out.cell 3
          simp only [List.getElem?_toArray, List.getElem?_cons_succ, List.getElem?_cons_zero] at c1 c2 c3
          go_wp2_with fail
          refine (number_any (RA.out.part WX.out HM.out (by omega)) (RA.out.part WX.out HM.out (by omega)) (HT.out.now X4.out.1) (by rw [HM.out]; omega) (by rw [HM.out]; omega) k hn0 hn).mono ?_
          rintro e w5 ⟨r1, rfl, qr1, kk⟩
          obtain rfl : rt = r1 := numIs_unique Nrt.out qr1
          clear qr1
          have X5 := hid (X4.out.step kk)
          have RA' := hid (RA.out.step kk)
          clear RA
          have RA := RA'
          clear RA'
          have RB' := hid (RB.out.step kk)
          clear RB
          have RB := RB'
          clear RB'
          clear X4 c1 c2 c3
          clear kk
          have c1 := X5.out.cell 1
          have c2 := X5.out.cell 2
          have c3 := X5.out.cell 3
          simp only [List.getElem?_toArray, List.getElem?_cons_succ, List.getElem?_cons_zero] at c1 c2 c3
          go_wp2_with fail
          refine (number_any (RA.out.part WX.out HM.out (by omega)) (RB.out.part WY.out HL.out (by omega)) (HT.out.now X5.out.1) (by rw [HM.out]; omega) (by rw [HL.out]; omega) k hn0 hn).mono ?_
          rintro e w6 ⟨r2, rfl, qr2, kk⟩
          obtain rfl : rwn = r2 := numIs_unique Nrwn.out qr2
          clear qr2
          have X6 := hid (X5.out.step kk)
          have RA' := hid (RA.out.step kk)
          clear RA
          have RA := RA'
          clear RA'
          have RB' := hid (RB.out.step kk)
          clear RB
          have RB := RB'
          clear RB'
          clear X5 c1 c2 c3
          clear kk
          have c1 := X6.out.cell 1
          have c2 := X6.out.cell 2
          have c3 := X6.out.cell 3
          simp only [List.getElem?_toArray, List.getElem?_cons_succ, List.getElem?_cons_zero] at c1 c2 c3
          go_wp2_with fail
          refine (number_any (RA.out.part WX.out HM.out (by omega)) (RB.out.part WY.out HL.out (by omega)) (HT.out.now X6.out.1) (by rw [HM.out]; omega) (by rw [HL.out]; omega) k hn0 hn).mono ?_
          rintro e w7 ⟨r3, rfl, qr3, kk⟩
          obtain rfl : rwn = r3 := numIs_unique Nrwn.out qr3
          clear qr3
          have X7 := hid (X6.out.step kk)
          have RA' := hid (RA.out.step kk)
          clear RA
          have RA := RA'
          clear RA'
          have RB' := hid (RB.out.step kk)
          clear RB
          have RB := RB'
          clear RB'
          clear X6 c1 c2 c3
          clear kk
          have c1 := X7.out.cell 1
          have c2 := X7.out.cell 2
          have c3 := X7.out.cell 3
          simp only [List.getElem?_toArray, List.getElem?_cons_succ, List.getElem?_cons_zero] at c1 c2 c3
          go_wp2_with fail
          refine (kept_now (RA.out.full WX.out HM.out (by omega)) (HA.out.now X7.out.1) rfl).mono ?_
          rintro e w8 ⟨rfl, kk⟩
          have X8 := hid (X7.out.step kk)
          have RA' := hid (RA.out.step kk)
          clear RA
          have RA := RA'
          clear RA'
          have RB' := hid (RB.out.step kk)
          clear RB
          have RB := RB'
          clear RB'
          clear X7 c1 c2 c3
          clear kk
          have c1 := X8.out.cell 1
          have c2 := X8.out.cell 2
          have c3 := X8.out.cell 3
          simp only [List.getElem?_toArray, List.getElem?_cons_succ, List.getElem?_cons_zero] at c1 c2 c3
          go_wp2_with fail
          refine (kept_now (RB.out.full WY.out HL.out (by omega)) (HB.out.now X8.out.1) rfl).mono ?_
          rintro e w9 ⟨rfl, kk⟩
          have X9 := hid (X8.out.step kk)
          have RA' := hid (RA.out.step kk)
          clear RA
          have RA := RA'
          clear RA'
          have RB' := hid (RB.out.step kk)
          clear RB
          have RB := RB'
          clear RB'
          clear X8 c1 c2 c3
          clear kk
          have c1 := X9.out.cell 1
          have c2 := X9.out.cell 2
          have c3 := X9.out.cell 3
          simp only [List.getElem?_toArray, List.getElem?_cons_succ, List.getElem?_cons_zero] at c1 c2 c3
          go_wp2_with fail
          refine (turned_any (HA.out.now X9.out.1)).mono ?_
          rintro e w10 ⟨rfl, tt, kk⟩
          rw [HM.out]
          have hgna : gb < w9.heap.size := RB.out.lt
          have X10 := hid (X9.out.step kk)
          have RA' := hid (RA.out.step kk)
          clear RA
          have RA := RA'
          clear RA'
          have RB' := hid (RB.out.step kk)
          clear RB
          have RB := RB'
          clear RB'
          clear X9 c1 c2 c3
          have RNA : Hid (Row w10 w9.heap.size (ws (xs.map turnW))) := tt
          clear tt kk
          generalize w9.heap.size = gna at *
          have c1 := X10.out.cell 1
          have c2 := X10.out.cell 2
          have c3 := X10.out.cell 3
          simp only [List.getElem?_toArray, List.getElem?_cons_succ, List.getElem?_cons_zero] at c1 c2 c3
          go_wp2_with fail
          refine (turned_any (HB.out.now X10.out.1)).mono ?_
          rintro e w11 ⟨rfl, tt, kk⟩
          rw [HL.out]
          have hgnb : gb < w10.heap.size := RB.out.lt
          have hnn : gna < w10.heap.size := RNA.out.lt
          have X11 := hid (X10.out.step kk)
          have RA' := hid (RA.out.step kk)
          clear RA
          have RA := RA'
          clear RA'
          have RB' := hid (RB.out.step kk)
          clear RB
          have RB := RB'
          clear RB'
          have RNA' := hid (RNA.out.step kk)
          clear RNA
          have RNA := RNA'
          clear RNA'
          clear X10 c1 c2 c3
          have RNB : Hid (Row w11 w10.heap.size (ws (ys.map turnW))) := tt
          clear tt kk
          generalize w10.heap.size = gnb at *
          have WXT := hid (turn_wf WX.out)
          have WYT := hid (turn_wf WY.out)
          have LXT : Hid ((xs.map turnW).length = m) := by unfold Hid; rw [List.length_map]; exact HM.out
          have LYT : Hid ((ys.map turnW).length = l) := by unfold Hid; rw [List.length_map]; exact HL.out
          have c1 := X11.out.cell 1
          have c2 := X11.out.cell 2
          have c3 := X11.out.cell 3
          simp only [List.getElem?_toArray, List.getElem?_cons_succ, List.getElem?_cons_zero] at c1 c2 c3
          have rr : Row w11 ga (ws xs ++ ws (mrk xs.length)) := by rw [← ws_roomy]; exact RA.out
          have RRR := hid rr
          clear rr
          go_wp2_with (refine wpList_copy_over _ rfl (.tmp 102) (.tmp 103) rfl ga gna m (m + 80) m xs (xs.map turnW) (ws (mrk xs.length)) [] RRR.out (by simpa using RNA.out) HM.out LXT.out rfl rfl ?_)
          intro w12 hrow htt
          have RA2 : Hid (Rm w12 ga (xs.map turnW)) := Rm.over (by rw [List.length_map]) hrow.out
          have X12 := hid (X11.out.touch htt.out (by omega))
          have RB' := hid (RB.out.touch htt.out (by omega))
          clear RB
          have RB := RB'
          clear RB'
          have RNA' := hid (RNA.out.touch htt.out (by omega))
          clear RNA
          have RNA := RNA'
          clear RNA'
          have RNB' := hid (RNB.out.touch htt.out (by omega))
          clear RNB
          have RNB := RNB'
          clear RNB'
          clear X11 c1 c2 c3
          clear RA RRR hrow htt
          have RA := RA2
          clear RA2
          have c1 := X12.out.cell 1
          have c2 := X12.out.cell 2
          have c3 := X12.out.cell 3
          simp only [List.getElem?_toArray, List.getElem?_cons_succ, List.getElem?_cons_zero] at c1 c2 c3
          have rr : Row w12 gb (ws ys ++ ws (mrk ys.length)) := by rw [← ws_roomy]; exact RB.out
          have RRR := hid rr
          clear rr
          go_wp2_with (refine wpList_copy_over _ rfl (.tmp 105) (.tmp 106) rfl gb gnb l (l + 80) l ys (ys.map turnW) (ws (mrk ys.length)) [] RRR.out (by simpa using RNB.out) HL.out LYT.out rfl rfl ?_)
          intro w13 hrow htt
          have RB2 : Hid (Rm w13 gb (ys.map turnW)) := Rm.over (by rw [List.length_map]) hrow.out
          have X13 := hid (X12.out.touch htt.out (by omega))
          have RA' := hid (RA.out.touch htt.out (by omega))
          clear RA
          have RA := RA'
          clear RA'
          have RNA' := hid (RNA.out.touch htt.out (by omega))
          clear RNA
          have RNA := RNA'
          clear RNA'
          have RNB' := hid (RNB.out.touch htt.out (by omega))
          clear RNB
          have RNB := RNB'
          clear RNB'
          clear X12 c1 c2 c3
          clear RB RRR hrow htt
          have RB := RB2
          clear RB2
          generalize xs.map turnW = XT at *
          generalize ys.map turnW = YT at *
          have hkk : ((k : Int) == 4) = false := by rw [beq_eq_false_iff_ne]; omega
          have c1 := X13.out.cell 1
          have c2 := X13.out.cell 2
          have c3 := X13.out.cell 3
          simp only [List.getElem?_toArray, List.getElem?_cons_succ, List.getElem?_cons_zero] at c1 c2 c3
          go_wp2_with fail
          refine (wantedNumber_any (RNA.out.whole WXT.out LXT.out (by omega)) (RNB.out.whole WYT.out LYT.out (by omega)) (HT.out.now X13.out.1) (by rw [LXT.out]; omega) (by rw [LYT.out]; omega) k hn0 hn).mono ?_
          rintro e w14 ⟨rv, rfl, qrv, kk⟩
          have Nrv := hid qrv
          clear qrv
          have X14 := hid (X13.out.step kk)
          have RA' := hid (RA.out.step kk)
          clear RA
          have RA := RA'
          clear RA'
          have RB' := hid (RB.out.step kk)
          clear RB
          have RB := RB'
          clear RB'
          have RNA' := hid (RNA.out.step kk)
          clear RNA
          have RNA := RNA'
          clear RNA'
          have RNB' := hid (RNB.out.step kk)
          clear RNB
          have RNB := RNB'
          clear RNB'
          clear X13 c1 c2 c3
          clear kk
          have hne3 : (rv != rv) = false := by simp
          have c1 := X14.out.cell 1
          have c2 := X14.out.cell 2
          have c3 := X14.out.cell 3
          simp only [List.getElem?_toArray, List.getElem?_cons_succ, List.getElem?_cons_zero] at c1 c2 c3
          go_wp2_with fail
          refine (number_any (RA.out.part WXT.out LXT.out (by omega)) (RB.out.part WYT.out LYT.out (by omega)) (HT.out.now X14.out.1) (by rw [LXT.out]; omega) (by rw [LYT.out]; omega) k hn0 hn).mono ?_
          rintro e w15 ⟨r4, rfl, qr4, kk⟩
          obtain rfl : rv = r4 := numIs_unique Nrv.out qr4
          clear qr4
          have X15 := hid (X14.out.step kk)
          have RA' := hid (RA.out.step kk)
          clear RA
          have RA := RA'
          clear RA'
          have RB' := hid (RB.out.step kk)
          clear RB
          have RB := RB'
          clear RB'
          have RNA' := hid (RNA.out.step kk)
          clear RNA
          have RNA := RNA'
          clear RNA'
          have RNB' := hid (RNB.out.step kk)
          clear RNB
          have RNB := RNB'
          clear RNB'
          clear X14 c1 c2 c3
          clear kk
          have c1 := X15.out.cell 1
          have c2 := X15.out.cell 2
          have c3 := X15.out.cell 3
          simp only [List.getElem?_toArray, List.getElem?_cons_succ, List.getElem?_cons_zero] at c1 c2 c3
          go_wp2_with fail
          refine (kept_now (RA.out.full WXT.out LXT.out (by omega)) (RNA.out.whole WXT.out LXT.out (by omega)) rfl).mono ?_
          rintro e w16 ⟨rfl, kk⟩
          have X16 := hid (X15.out.step kk)
          have RA' := hid (RA.out.step kk)
          clear RA
          have RA := RA'
          clear RA'
          have RB' := hid (RB.out.step kk)
          clear RB
          have RB := RB'
          clear RB'
          have RNA' := hid (RNA.out.step kk)
          clear RNA
          have RNA := RNA'
          clear RNA'
          have RNB' := hid (RNB.out.step kk)
          clear RNB
          have RNB := RNB'
          clear RNB'
          clear X15 c1 c2 c3
          clear kk
          have c1 := X16.out.cell 1
          have c2 := X16.out.cell 2
          have c3 := X16.out.cell 3
          simp only [List.getElem?_toArray, List.getElem?_cons_succ, List.getElem?_cons_zero] at c1 c2 c3
          go_wp2_with fail
          refine (kept_now (RB.out.full WYT.out LYT.out (by omega)) (RNB.out.whole WYT.out LYT.out (by omega)) rfl).mono ?_
          rintro e w17 ⟨rfl, kk⟩
          have X17 := hid (X16.out.step kk)
          have RA' := hid (RA.out.step kk)
          clear RA
          have RA := RA'
          clear RA'
          have RB' := hid (RB.out.step kk)
          clear RB
          have RB := RB'
          clear RB'
          have RNA' := hid (RNA.out.step kk)
          clear RNA
          have RNA := RNA'
          clear RNA'
          have RNB' := hid (RNB.out.step kk)
          clear RNB
          have RNB := RNB'
          clear RNB'
          clear X16 c1 c2 c3
          clear kk
          go_wp2
          go_roundw
          case rel => exact ⟨k + 1, by omega, by omega, by go_num, X17⟩
          case measure => simp [intOf]; omega
    · go_wp2
      go_ret
      exact ⟨rfl, X0.out.1⟩
end Go.Proofs.YtagfekcocdjhlaaDoor
