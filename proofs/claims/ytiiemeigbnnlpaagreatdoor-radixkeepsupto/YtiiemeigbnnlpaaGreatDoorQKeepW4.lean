/-
  KeepW4: the walk of RadixKeeps.
-/
import Derived.Test.YtiiemeigbnnlpaaGreatDoorQTurnWToKeepP4
namespace Go.Proofs.YtiiemeigbnnlpaaGreatDoor
open Go.RowKit
set_option linter.unusedVariables false

set_option maxRecDepth 100000 in
set_option maxHeartbeats 12800000 in
theorem radixKeeps_any {w : World} {k1 b1 k2 b2 : Int} {v1 v2 : Value} {xs ys : List Int} {s1 s2 : ByteArray} (ha : Sl w.heap.size w v1 xs) (lx : xs.length ≤ 1048576) (ha2 : Sl w.heap.size w v2 ys) (hT : Sg w)
    (hs1 : s1.size ≤ 1048576) (hs2 : s2.size ≤ 1048576) (m1 : -9223372036854775808 ≤ b1) (M1 : b1 ≤ 9223372036854775807) (m2 : -9223372036854775808 ≤ b2) (M2 : b2 ≤ 9223372036854775807) :
    Calls Tryz.prog 3 #[.agg #[.int .i64 k1, v1, .string s1, .int .i64 b1], .agg #[.int .i64 k2, v2, .string s2, .int .i64 b2]] w fun e w' => e = .returned (.bool true) ∧ Below w.heap.size w w' := by
  obtain ⟨V, ev, av, bv⟩ := read_keep k1 s1 hs1 m1 M1
  obtain ⟨U, eu, au, bu⟩ := read_keep k2 s2 hs2 m2 M2
  have HEV := hid ev
  have HAV := hid av
  have HBV := hid bv
  have HEU := hid eu
  have HAU := hid au
  have HBU := hid bu
  have HM1 := hid m1
  have HM1' := hid M1
  have HT := hid hT
  have HX : Hid (WF xs) := ha.1
  have HLX := hid lx
  obtain ⟨a, c, rfl⟩ : ∃ a c, v1 = .slice a xs.length c := by obtain ⟨_, a, c, e, _⟩ := ha; exact ⟨a, c, e⟩
  obtain ⟨a2, n2, d2, rfl⟩ : ∃ a n c, v2 = .slice a n c := by obtain ⟨_, a, c, e, _⟩ := ha2; exact ⟨a, _, c, e⟩
  have HA := hid ha
  obtain ⟨n, hn⟩ : ∃ n, xs.length = n := ⟨_, rfl⟩
  rw [hn] at HA lx ⊢
  have HN := hid hn
  clear ev av bv eu au bu m1 M1 m2 M2 hT ha ha2 hs1 hs2 hn
  obtain ⟨W0, hW⟩ : ∃ W0, (w.alloc (.cells #[.int .i64 k1, .slice a n c, .string s1, .int .i64 b1] 24)).alloc (.cells #[.int .i64 k2, .slice a2 n2 d2, .string s2, .int .i64 b2] 24) = W0 := ⟨_, rfl⟩
  obtain ⟨b0, hF⟩ := Fk.start w k1 b1 k2 b2 (.slice a n c) (.slice a2 n2 d2) s1 s2 hW
  have B0 := hid b0
  have HF := hid hF
  have EW := hid hW
  clear b0 hF hW
  go_enter Tryz.func3, Tryz.ntmps3
  go_wp2_with fail
  rw [EW.out]
  refine (awake4_any (HT.out.now B0.out)).mono ?_
  rintro e W1 ⟨rfl, q⟩
  have G := hid q
  clear q EW
  generalize hq : w.heap.size = qw at *
  have HQ := hid hq
  clear hq
  obtain ⟨a0, a1, a2', a3, c0, c1, c2, c3⟩ := HF.out W1 G.out
  go_wp2_with fail
  refine (HBV.out W1).mono ?_
  rintro e W2 ⟨zw, aw, cw, rfl, sw, cnw, hvw, q⟩
  have CW := hid cnw
  have VW := hid hvw
  have SW := hid sw
  replace G := hid (below_step G.out q)
  clear q cnw hvw sw a0 a1 a2' a3 c0 c1 c2 c3 HBV
  generalize hz : zw.length = nw at *
  have HZW := hid hz
  clear hz
  obtain ⟨a0, a1, a2', a3, c0, c1, c2, c3⟩ := HF.out W2 G.out
  go_wp2_with fail
  refine (HBU.out W2).mono ?_
  rintro e W3 ⟨zp, ap, cp, rfl, sp, cnp, hvp, q⟩
  have CP := hid cnp
  have VP := hid hvp
  have SP := hid sp
  replace SW := hid (SW.out.now q)
  replace G := hid (below_step G.out q)
  clear q cnp hvp sp a0 a1 a2' a3 c0 c1 c2 c3 HBU
  generalize hz : zp.length = np at *
  have HZP := hid hz
  clear hz
  have HK : Hid (∀ wr, Below W3.heap.size W3 wr → Kf qw k1 b1 k2 b2 (.slice a n c) (.slice a2 n2 d2) (.slice aw nw cw) (.slice ap np cp) s1 s2 xs zw zp wr) := fun wr h => by
    have hb := below_step G.out h
    have hw : Below w.heap.size w wr := by have := B0.out; rw [← HQ.out] at this; exact below_step this hb
    have hA := HA.out
    rw [← HQ.out] at hA
    exact ⟨HF.out wr hb, HT.out.now hw, hA.now hw, SW.out.now h, SP.out.now h⟩
  have HE : Hid (∀ wr, Below W3.heap.size W3 wr → Below qw w wr) := fun wr h => by
    have := B0.out
    rw [← HQ.out] at this ⊢
    exact below_step (below_step this G.out) h
  clear SW SP G B0 HA HF HT
  have G : Hid (Below W3.heap.size W3 W3) := Below.refl _ _
  obtain ⟨⟨a0, a1, a2', a3, c0, c1, c2, c3⟩, -⟩ := HK.out W3 G.out
  go_wp2_with fail
  refine (HAV.out W3 (HK.out W3 G.out).2.1).mono ?_
  rintro e W4 ⟨zx, ax, cx, Ex, rfl, m, cn, hv, q⟩
  have ez : zx = zw := canon_by cn CW.out hv VW.out
  rw [ez, HZW.out] at m ⊢
  have PX := hid (PlM.of m rfl)
  have S4 : Hid (W3.heap.size ≤ W4.heap.size) := q.size
  replace G := hid (below_step G.out q)
  clear a0 a1 a2' a3 c0 c1 c2 c3
  clear m cn hv q ez
  obtain ⟨⟨a0, a1, a2', a3, c0, c1, c2, c3⟩, -⟩ := HK.out W4 G.out
  go_wp2_with fail
  refine (HAV.out W4 (HK.out W4 G.out).2.1).mono ?_
  rintro e W5 ⟨zy, ay, cy, Ey, rfl, m, cn, hv, q⟩
  have ez : zy = zw := canon_by cn CW.out hv VW.out
  rw [ez, HZW.out] at m ⊢
  have PY := hid (PlM.of m rfl)
  replace PX := hid (PX.out.step q)
  have S5 : Hid (W4.heap.size ≤ W5.heap.size) := q.size
  replace G := hid (below_step G.out q)
  clear a0 a1 a2' a3 c0 c1 c2 c3
  clear m cn hv q ez
  obtain ⟨⟨a0, a1, a2', a3, c0, c1, c2, c3⟩, -⟩ := HK.out W5 G.out
  go_wp2_with fail
  refine (HAU.out W5 (HK.out W5 G.out).2.1).mono ?_
  rintro e W6 ⟨zz, az, cz, Ez, rfl, m, cn, hv, q⟩
  have ez : zz = zp := canon_by cn CP.out hv VP.out
  rw [ez, HZP.out] at m ⊢
  have PZ := hid (PlM.of m rfl)
  replace PX := hid (PX.out.step q)
  replace PY := hid (PY.out.step q)
  have S6 : Hid (W5.heap.size ≤ W6.heap.size) := q.size
  replace G := hid (below_step G.out q)
  clear a0 a1 a2' a3 c0 c1 c2 c3
  clear m cn hv q ez
  obtain ⟨⟨a0, a1, a2', a3, c0, c1, c2, c3⟩, -⟩ := HK.out W6 G.out
  go_wp2_with fail
  refine (HAV.out W6 (HK.out W6 G.out).2.1).mono ?_
  rintro e W7 ⟨zr, ar, cr, Er, rfl, m, cn, hv, q⟩
  have ez : zr = zw := canon_by cn CW.out hv VW.out
  rw [ez, HZW.out] at m ⊢
  have PS := hid (PlM.of m rfl)
  replace PX := hid (PX.out.step q)
  replace PY := hid (PY.out.step q)
  replace PZ := hid (PZ.out.step q)
  have S7 : Hid (W6.heap.size ≤ W7.heap.size) := q.size
  replace G := hid (below_step G.out q)
  clear a0 a1 a2' a3 c0 c1 c2 c3
  clear m cn hv q ez
  have TT : Hid (W7.heap.size ≤ W7.heap.size) := Nat.le_refl _
  go_wp2_with fail
  refine (same_yes PX.out.1.sl (HK.out W7 G.out).2.2.2.1 rfl).mono ?_
  rintro e W8 ⟨rfl, q⟩
  replace PX := hid (PX.out.step q)
  replace PY := hid (PY.out.step q)
  replace PZ := hid (PZ.out.step q)
  replace PS := hid (PS.out.step q)
  replace TT : Hid (W7.heap.size ≤ W8.heap.size) := Nat.le_trans TT.out q.size
  replace G := hid (below_step G.out q)
  clear q
  go_wp2_with fail
  refine (same_yes PY.out.1.sl (HK.out W8 G.out).2.2.2.1 rfl).mono ?_
  rintro e W9 ⟨rfl, q⟩
  replace PX := hid (PX.out.step q)
  replace PY := hid (PY.out.step q)
  replace PZ := hid (PZ.out.step q)
  replace PS := hid (PS.out.step q)
  replace TT : Hid (W7.heap.size ≤ W9.heap.size) := Nat.le_trans TT.out q.size
  replace G := hid (below_step G.out q)
  clear q
  go_wp2_with fail
  refine (same_yes PZ.out.1.sl (HK.out W9 G.out).2.2.2.2 rfl).mono ?_
  rintro e W10 ⟨rfl, q⟩
  replace PX := hid (PX.out.step q)
  replace PY := hid (PY.out.step q)
  replace PZ := hid (PZ.out.step q)
  replace PS := hid (PS.out.step q)
  replace TT : Hid (W7.heap.size ≤ W10.heap.size) := Nat.le_trans TT.out q.size
  replace G := hid (below_step G.out q)
  clear q
  go_wp2_with fail
  refine (same_yes PS.out.1.sl (HK.out W10 G.out).2.2.2.1 rfl).mono ?_
  rintro e W11 ⟨rfl, q⟩
  replace PX := hid (PX.out.step q)
  replace PY := hid (PY.out.step q)
  replace PZ := hid (PZ.out.step q)
  replace PS := hid (PS.out.step q)
  replace TT : Hid (W7.heap.size ≤ W11.heap.size) := Nat.le_trans TT.out q.size
  replace G := hid (below_step G.out q)
  clear q
  go_wp2_with fail
  obtain ⟨wb, ewb⟩ : ∃ wb, wb = (W11.alloc (.cells #[.slice ax nw cx, .slice ay nw cy, .slice az np cz, .slice ar nw cr] 22)).alloc (.cells #[.slice (some ⟨W11.heap.size, 0, none⟩) 4 4, .slice none 0 0, .slice none 0 0] 35) := ⟨_, rfl⟩
  rw [← ewb]
  obtain ⟨kk, hsz, hd0, hd1, hd2, hit⟩ := book_new4 W11 (.slice ax nw cx) (.slice ay nw cy) (.slice az np cz) (.slice ar nw cr) ewb
  clear ewb
  replace PX := hid (PX.out.step kk)
  replace PY := hid (PY.out.step kk)
  replace PZ := hid (PZ.out.step kk)
  replace PS := hid (PS.out.step kk)
  replace G := hid (below_step G.out kk)
  have lw : zw.length ≤ 1100000 := Nat.le_trans (HEV.out zw CW.out VW.out) (by omega)
  have lp : zp.length ≤ 1100000 := Nat.le_trans (HEU.out zp CP.out VP.out) (by omega)
  obtain ⟨LL, hbk⟩ := bk4 (bb := W11.heap.size + 1) (gb := W11.heap.size) PX.out PY.out PZ.out PS.out lw lw lp lw (Nat.le_refl _) S5.out (Nat.le_refl _) S6.out (Nat.le_refl _) S7.out (by have f4 := S4.out; have f5 := S5.out; have f6 := S6.out; have f7 := S7.out; have ft := TT.out; omega) TT.out (by omega) (by omega) hd0 hit
  have HBA := hid (apart_yes hbk hd1 hd2)
  have HFA : Hid (∀ g, Blk 4 (four (.slice ax nw cx) (.slice ay nw cy) (.slice az np cz) (.slice ar nw cr)) g → W3.heap.size ≤ g) := four_at (fun g h => (PX.out.2 g h).1) (fun g h => by have := (PY.out.2 g h).1; have f4 := S4.out; have f5 := S5.out; have f6 := S6.out; have f7 := S7.out; have ft := TT.out; omega) (fun g h => by have := (PZ.out.2 g h).1; have f4 := S4.out; have f5 := S5.out; have f6 := S6.out; have f7 := S7.out; have ft := TT.out; omega) (fun g h => by have := (PS.out.2 g h).1; have f4 := S4.out; have f5 := S5.out; have f6 := S6.out; have f7 := S7.out; have ft := TT.out; omega)
  clear hbk hd0 hd1 hd2 hit lw lp kk PX PY PZ PS S4 S5 S6 S7 TT
  generalize W11.heap.size + 1 = bk at *
  go_wp2_with fail
  refine HBA.out.mono ?_
  rintro e W12 ⟨rfl, q⟩
  replace G := hid (Below.touch4 G.out q HFA.out)
  clear q HBA HFA hsz
  obtain ⟨⟨a0, a1, a2', a3, c0, c1, c2, c3⟩, -⟩ := HK.out W12 G.out
  go_wp2_with fail
  refine (HAV.out W12 (HK.out W12 G.out).2.1).mono ?_
  rintro e W13 ⟨zv, av, cv, Ev, rfl, m, cn, hv, q⟩
  have ez : zv = zw := canon_by cn CW.out hv VW.out
  rw [ez, HZW.out] at m ⊢
  have PV := hid m.sl
  replace G := hid (below_step G.out q)
  clear m cn hv q ez a0 a1 a2' a3 c0 c1 c2 c3
  go_wp2_with fail
  refine (same_yes PV.out (HK.out W13 G.out).2.2.2.1 rfl).mono ?_
  rintro e W14 ⟨rfl, q⟩
  replace G := hid (below_step G.out q)
  clear q PV
  obtain ⟨⟨a0, a1, a2', a3, c0, c1, c2, c3⟩, -⟩ := HK.out W14 G.out
  go_wp2_with fail
  refine (roomy_any (HK.out W14 G.out).2.2.1 (by have := HLX.out; omega)).mono ?_
  rintro e W15 ⟨rfl, rr, q⟩
  rw [HN.out]
  have RA : Hid (Rm W15 W14.heap.size xs) := rr
  have QG : Hid (W3.heap.size ≤ W14.heap.size) := G.out.size
  replace G := hid (below_step G.out q)
  clear rr q a0 a1 a2' a3 c0 c1 c2 c3
  generalize W14.heap.size = g at *
  obtain ⟨⟨a0, a1, a2', a3, c0, c1, c2, c3⟩, -⟩ := HK.out W15 G.out
  have H0 : Hid (KeH W3 g xs 4 (.int .i64 1) W15) := ⟨1, rfl, rfl, Nat.le_refl _, by omega, RA.out, G.out⟩
  clear RA G
  go_wp2_with fail
  clear a0 a1 a2' a3 c0 c1 c2 c3
  go_loopg [20] 4 (fun gk s20 wx => KeH W3 g xs gk s20 wx)
  case atStart => exact H0.out
  case round =>
    clear H0
    obtain ⟨k, hgk, rfl, hk1, hk5, hr, hb⟩ := hrel
    have HGK := hid hgk
    have R := hid hr
    have G := hid hb
    clear hgk hr hb
    obtain ⟨⟨a0, a1, a2', a3, c0, c1, c2, c3⟩, -⟩ := HK.out wr G.out
    by_cases hlt : k ≤ 4
    · have hlt' : (k : Int) ≤ 4 := by omega
      have hwk : IntKind.i64.wrap ((k : Int) + 1) = ((k + 1 : Nat) : Int) := by rw [wrap_is] <;> omega
      go_wp2_with fail
      refine (texts_any (R.out.part HX.out HN.out (by omega)) HLX.out (HK.out wr G.out).2.1 _ _ HM1.out HM1'.out).mono ?_
      rintro e w1 ⟨rfl, q⟩
      replace R := hid (R.out.step q)
      replace G := hid (below_step G.out q)
      clear q a0 a1 a2' a3 c0 c1 c2 c3
      obtain ⟨⟨a0, a1, a2', a3, c0, c1, c2, c3⟩, -⟩ := HK.out w1 G.out
      go_wp2_with fail
      refine (kept_now (R.out.full HX.out HN.out (by omega)) (HK.out w1 G.out).2.2.1 rfl).mono ?_
      rintro e w2 ⟨rfl, q⟩
      replace R := hid (R.out.step q)
      replace G := hid (below_step G.out q)
      clear q a0 a1 a2' a3 c0 c1 c2 c3
      have H1 : Hid (KxH W3 g n xs n (.int .i64 0) w2) := ⟨0, rfl, rfl, Nat.zero_le _, by rw [xorU_zero]; exact R.out, G.out⟩
      clear R G
      go_wp2_with fail
      go_loopg [21] n (fun gk s21 wx => KxH W3 g n xs gk s21 wx)
      case atStart => exact H1.out
      case round =>
        clear H1
        obtain ⟨j, hgj, rfl, hj, hr, hb⟩ := hrel
        have HGJ := hid hgj
        have R := hid hr
        have G := hid hb
        clear hgj hr hb
        by_cases hlj : j < n
        · have hlj' : (j : Int) < (n : Int) := by omega
          have hwj : IntKind.i64.wrap ((j : Int) + 1) = ((j + 1 : Nat) : Int) := by rw [wrap_is] <;> omega
          have hj2 : j < xs.length := by rw [HN.out]; exact hlj
          have hj3 : j < (xorU xs j).length := by rw [xorU_len xs (by omega)]; exact hj2
          have d1 : wr.cell? ⟨g, j, none⟩ = some (.int .u64 xs[j]) := by rw [← xorU_get hj3 hj2]; exact R.out.word hj3
          have df : wr.frozen? ⟨g, j, none⟩ = false := Row.frozen R.out j
          have HS := hid (R.out.setAt hj3 (turnW xs[j]))
          rw [xorU_set hj2] at HS
          have HB := hid (G.out.setCell (p := ⟨g, j, none⟩) QG.out (.int .u64 (turnW xs[j])))
          unfold turnW at HS HB
          have hx := HX.out.get hj2
          unfold IsW wB at hx
          generalize xs[j] = x at *
          clear R G hj2 hj3
          go_wp2
          go_roundg (n - (j + 1))
          case rel => exact ⟨j + 1, rfl, rfl, by omega, HS.out, HB.out⟩
          case measure => have := HGJ.out; omega
        · have hnj : ¬ ((j : Int) < (n : Int)) := by omega
          have hjn : j = n := by omega
          rw [hjn, xorU_all xs HN.out] at R
          clear hjn
          obtain ⟨⟨a0, a1, a2', a3, c0, c1, c2, c3⟩, -⟩ := HK.out wr G.out
          go_wp2_with fail
          refine (texts_any (R.out.part (turn_wf HX.out) (by rw [List.length_map]; exact HN.out) (by omega)) (by rw [List.length_map]; exact HLX.out) (HK.out wr G.out).2.1 _ _ HM1.out HM1'.out).mono ?_
          rintro e w3 ⟨rfl, q⟩
          replace R := hid (R.out.step q)
          replace G := hid (below_step G.out q)
          clear q a0 a1 a2' a3 c0 c1 c2 c3
          obtain ⟨⟨a0, a1, a2', a3, c0, c1, c2, c3⟩, -⟩ := HK.out w3 G.out
          go_wp2_with (refine wpList_copy_back _ rfl (.tmp 169) (.tmp 171) rfl g n (n + 80) c a xs (xs.map turnW) R.out (by simp) rfl rfl HN.out (HK.out w3 G.out).2.2.1 W3 G.out QG.out ?_)
          intro w4 R4 G4
          clear a0 a1 a2' a3 c0 c1 c2 c3 R G
          go_wp2_with fail
          go_roundg (5 - (k + 1))
          case rel => exact ⟨k + 1, rfl, rfl, by omega, by omega, R4.out, G4.out⟩
          case measure => have := HGK.out; omega
    · have hnk : ¬ ((k : Int) ≤ 4) := by omega
      go_wp2_with fail
      refine (kept_now (R.out.full HX.out HN.out (by omega)) (HK.out wr G.out).2.2.1 rfl).mono ?_
      rintro e w1 ⟨rfl, q⟩
      replace G := hid (below_step G.out q)
      clear q
      go_wp2
      go_ret
      exact ⟨rfl, by rw [HQ.out]; exact HE.out _ G.out⟩
end Go.Proofs.YtiiemeigbnnlpaaGreatDoor
