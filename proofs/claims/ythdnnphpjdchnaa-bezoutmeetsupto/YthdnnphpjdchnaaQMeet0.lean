/-
  Meet0: BezoutMeets where a modulus is 0.
-/
import Derived.Test.YthdnnphpjdchnaaQMeetPureToDWords
import Derived.Test.YthdnnphpjdchnaaQWakes6
import Derived.Test.YthdnnphpjdchnaaQR5AddToZNil
namespace Go.Proofs.Ythdnnphpjdchnaa
open Go.RowKit
set_option linter.unusedVariables false

theorem divides6n {w : World} {vd va : Value} {D A : Int} {k l : Nat} (hd : Zi w vd D k) (ha : Zi w va A l) (hk : k ≤ 1099511627776) (hl : l ≤ 1099511627776) (hD : D ≠ 0) (h : ¬ D ∣ A) : Calls Try.prog 16 #[vd, va] w fun e w' => e = .returned (.bool false) ∧ Below w.heap.size w w' :=
  divides_no (k := max k l) (hd.more (by omega)) (ha.more (by omega)) (by omega) hD (fun e => h (Int.dvd_of_tmod_eq_zero e))
set_option maxHeartbeats 51200000 in
set_option maxRecDepth 100000 in
theorem meets_z1 {w : World} {v0 v1 v2 v3 v4 v5 v6 v7 : Value} {A B S T : Int} (ha : Zi w (.agg #[v0, v1]) A 1048576) (hb : Zi w (.agg #[v2, v3]) B 1048576) (hs : Zi w (.agg #[v4, v5]) S 1048576) (ht : Zi w (.agg #[v6, v7]) T 1048576) (hB : B = 0) :
    Calls Try.prog 8 #[.agg #[v0, v1, v2, v3, v4, v5, v6, v7]] w fun e w' => e = .returned (.bool true) ∧ Below w.heap.size w w' := by
  have HB := hid hB
  clear hB
  have HP := hid (two_fit (k := 2097153) hb.lt ht.lt (by decide) (by decide))
  have za0 := ha
  obtain ⟨na, xa, ada, ca, rfl, rfl⟩ := ha.comp
  clear ha
  have zb0 := hb
  obtain ⟨nb, xb, adb, cb, rfl, rfl⟩ := hb.comp
  clear hb
  have zs0 := hs
  obtain ⟨ns, xs, ads, cs, rfl, rfl⟩ := hs.comp
  clear hs
  have zt0 := ht
  obtain ⟨nt, xt, adt, ct, rfl, rfl⟩ := ht.comp
  clear ht
  obtain ⟨W0, hW⟩ : ∃ W0, w.alloc (.cells #[(.bool na), (.slice ada xa.length ca), (.bool nb), (.slice adb xb.length cb), (.bool ns), (.slice ads xs.length cs), (.bool nt), (.slice adt xt.length ct)] 52) = W0 := ⟨_, rfl⟩
  obtain ⟨b0, sz0⟩ := alloc1 w (.cells #[(.bool na), (.slice ada xa.length ca), (.bool nb), (.slice adb xb.length cb), (.bool ns), (.slice ads xs.length cs), (.bool nt), (.slice adt xt.length ct)] 52)
  rw [hW] at b0 sz0
  have PXA : Hid (Cel W0 (w.heap.size) 52 [(.bool na), (.slice ada xa.length ca), (.bool nb), (.slice adb xb.length cb), (.bool ns), (.slice ads xs.length cs), (.bool nt), (.slice adt xt.length ct)]) := by unfold Hid; rw [← hW]; exact Cel.new _ _ _
  have Za := hid (za0.now b0)
  clear za0
  have Zb := hid (zb0.now b0)
  clear zb0
  have Zs := hid (zs0.now b0)
  clear zs0
  have Zt := hid (zt0.now b0)
  clear zt0
  have G := hid b0
  clear b0
  have EW := hid hW
  clear hW
  go_enter Try.func8, Try.ntmps8
  skip
  go_wp2_with fail
  rw [EW.out]
  clear EW
  refine (wakes6 _).mono ?_
  rintro e w1 ⟨rfl, b⟩
  replace Za := hid (Za.out.now b)
  replace Zb := hid (Zb.out.now b)
  replace Zs := hid (Zs.out.now b)
  replace Zt := hid (Zt.out.now b)
  replace PXA := hid (PXA.out.step b)
  replace G := hid (below_step G.out b)
  have lz2 := (show Below _ _ _ from b).size
  clear b 
  have cXA0 := (PXA.out.at (i := 0) rfl)
  have cXA1 := (PXA.out.at (i := 1) rfl)
  have cXA2 := (PXA.out.at (i := 2) rfl)
  have cXA3 := (PXA.out.at (i := 3) rfl)
  have cXA4 := (PXA.out.at (i := 4) rfl)
  have cXA5 := (PXA.out.at (i := 5) rfl)
  have cXA6 := (PXA.out.at (i := 6) rfl)
  have cXA7 := (PXA.out.at (i := 7) rfl)
  have lxa := PXA.out.blk
  have xq6 := (PXA.out.step (alloc3 w1 (duo (.bool na) (.slice ada xa.length ca)) (duo (.bool nb) (.slice adb xb.length cb)) (duo (.bool ns) (.slice ads xs.length cs))).1).at (i := 6) rfl
  have xq7 := (PXA.out.step (alloc3 w1 (duo (.bool na) (.slice ada xa.length ca)) (duo (.bool nb) (.slice adb xb.length cb)) (duo (.bool ns) (.slice ads xs.length cs))).1).at (i := 7) rfl
  obtain ⟨V3, hW⟩ : ∃ V3, (((w1.alloc (duo (.bool na) (.slice ada xa.length ca))).alloc (duo (.bool nb) (.slice adb xb.length cb))).alloc (duo (.bool ns) (.slice ads xs.length cs))).alloc (duo (.bool nt) (.slice adt xt.length ct)) = V3 := ⟨_, rfl⟩
  obtain ⟨kW, sz3⟩ := alloc4 w1 (duo (.bool na) (.slice ada xa.length ca)) (duo (.bool nb) (.slice adb xb.length cb)) (duo (.bool ns) (.slice ads xs.length cs)) (duo (.bool nt) (.slice adt xt.length ct))
  rw [hW] at kW sz3
  replace Za := hid (Za.out.now kW)
  replace Zb := hid (Zb.out.now kW)
  replace Zs := hid (Zs.out.now kW)
  replace Zt := hid (Zt.out.now kW)
  replace PXA := hid (PXA.out.step kW)
  replace G := hid (below_step G.out kW)
  have lz4 := (show Below _ _ _ from kW).size
  have Pa : Hid (Duo V3 (w1.heap.size) (.bool na) (.slice ada xa.length ca)) := by unfold Hid; rw [← hW]; exact duo_late (duo_late (duo_late (duo_at (by simp)) _) _) _
  have Pb : Hid (Duo V3 (w1.heap.size + 1) (.bool nb) (.slice adb xb.length cb)) := by unfold Hid; rw [← hW]; exact duo_late (duo_late (duo_at (by simp)) _) _
  have Ps : Hid (Duo V3 (w1.heap.size + 1 + 1) (.bool ns) (.slice ads xs.length cs)) := by unfold Hid; rw [← hW]; exact duo_late (duo_at (by simp)) _
  have Pt : Hid (Duo V3 (w1.heap.size + 1 + 1 + 1) (.bool nt) (.slice adt xt.length ct)) := by unfold Hid; rw [← hW]; exact duo_at (by simp)
  clear kW
  have ca0 := Pa.out.c0
  have ca1 := Pa.out.c1
  have cb0 := Pb.out.c0
  have cb1 := Pb.out.c1
  have cs0 := Ps.out.c0
  have cs1 := Ps.out.c1
  have ct0 := Pt.out.c0
  have ct1 := Pt.out.c1
  rw [← hW] at ca0 ca1 cb0 cb1 cs0 cs1 ct0 ct1
  have EW := hid hW
  clear hW
  go_wp2_with fail
  rw [EW.out]
  clear EW
  clear ca0 ca1 cb0 cb1 cs0 cs1 ct0 ct1
  clear cXA0 cXA1 cXA2 cXA3 cXA4 cXA5 cXA6 cXA7 xq6 xq7
  clear PXA
  refine (crt_z1 Za.out Zb.out Zs.out Zt.out (by decide) (by decide) HB.out).mono ?_
  rintro e w5 ⟨r0, r1, rfl, m0, m1, b⟩
  obtain ⟨nr, xr, adr, qr, rfl, -, -, -, -, -⟩ := id m0
  obtain ⟨nn, xn, adn, qn, rfl, -, -, -, -, -⟩ := id m1
  replace Za := hid (Za.out.now b)
  replace Zb := hid (Zb.out.now b)
  replace Zs := hid (Zs.out.now b)
  replace Zt := hid (Zt.out.now b)
  replace Pa := hid (Pa.out.step b)
  replace Pb := hid (Pb.out.step b)
  replace Ps := hid (Ps.out.step b)
  replace Pt := hid (Pt.out.step b)
  replace G := hid (below_step G.out b)
  have lz6 := (show Below _ _ _ from b).size
  have Zr := hid m0
  have Zn := hid m1
  clear b m0 m1
  obtain ⟨V7, hW⟩ : ∃ V7, (w5.alloc (duo (.bool nr) (.slice adr xr.length qr))).alloc (duo (.bool nn) (.slice adn xn.length qn)) = V7 := ⟨_, rfl⟩
  obtain ⟨kW, sz7⟩ := alloc2 w5 (duo (.bool nr) (.slice adr xr.length qr)) (duo (.bool nn) (.slice adn xn.length qn))
  rw [hW] at kW sz7
  replace Za := hid (Za.out.now kW)
  replace Zb := hid (Zb.out.now kW)
  replace Zs := hid (Zs.out.now kW)
  replace Zt := hid (Zt.out.now kW)
  replace Zr := hid (Zr.out.now kW)
  replace Zn := hid (Zn.out.now kW)
  replace Pa := hid (Pa.out.step kW)
  replace Pb := hid (Pb.out.step kW)
  replace Ps := hid (Ps.out.step kW)
  replace Pt := hid (Pt.out.step kW)
  replace G := hid (below_step G.out kW)
  have lz8 := (show Below _ _ _ from kW).size
  have Pr : Hid (Duo V7 (w5.heap.size) (.bool nr) (.slice adr xr.length qr)) := by unfold Hid; rw [← hW]; exact duo_late (duo_at (by simp)) _
  have Pn : Hid (Duo V7 (w5.heap.size + 1) (.bool nn) (.slice adn xn.length qn)) := by unfold Hid; rw [← hW]; exact duo_at (by simp)
  clear kW
  have ca0 := Pa.out.c0
  have ca1 := Pa.out.c1
  have cb0 := Pb.out.c0
  have cb1 := Pb.out.c1
  have cs0 := Ps.out.c0
  have cs1 := Ps.out.c1
  have ct0 := Pt.out.c0
  have ct1 := Pt.out.c1
  rw [← hW] at ca0 ca1 cb0 cb1 cs0 cs1 ct0 ct1
  have bo1 : Below V7.heap.size V7 (V7.alloc (.cells #[(.bool na), (.slice ada xa.length ca), (.bool ns), (.slice ads xs.length cs)] 24)) := (Below.refl _ _).alloc (Nat.le_refl _) _
  have yb0 := (Pb.out.step bo1).c0
  have yb1 := (Pb.out.step bo1).c1
  have yt0 := (Pt.out.step bo1).c0
  have yt1 := (Pt.out.step bo1).c1
  clear bo1
  rw [← hW] at yb0 yb1 yt0 yt1
  have EW := hid hW
  obtain ⟨U0, hU⟩ : ∃ U0, (V7.alloc (.cells #[(.bool na), (.slice ada xa.length ca), (.bool ns), (.slice ads xs.length cs)] 24)).alloc (.cells #[(.bool nb), (.slice adb xb.length cb), (.bool nt), (.slice adt xt.length ct)] 24) = U0 := ⟨_, rfl⟩
  obtain ⟨kU, szU⟩ := alloc2 V7 (.cells #[(.bool na), (.slice ada xa.length ca), (.bool ns), (.slice ads xs.length cs)] 24) (.cells #[(.bool nb), (.slice adb xb.length cb), (.bool nt), (.slice adt xt.length ct)] 24)
  rw [hU] at kU szU
  have LV : Hid (Zl U0 (.slice (some ⟨w5.heap.size + 1 + 1, 0, none⟩) 2 2) [A, S] 2097153) := by
    unfold Hid
    rw [← hU]
    have q := (zl_two (Za.out.more (show 1048576 ≤ 2097153 by decide)) (Zs.out.more (show 1048576 ≤ 2097153 by decide))).now ((Below.refl _ _).alloc (Nat.le_refl _) (.cells #[(.bool nb), (.slice adb xb.length cb), (.bool nt), (.slice adt xt.length ct)] 24))
    rw [sz7] at q
    exact q
  have LU : Hid (Zl U0 (.slice (some ⟨w5.heap.size + 1 + 1 + 1, 0, none⟩) 2 2) [B, T] 2097153) := by
    unfold Hid
    rw [← hU]
    have bb : Below V7.heap.size V7 (V7.alloc (.cells #[(.bool na), (.slice ada xa.length ca), (.bool ns), (.slice ads xs.length cs)] 24)) := (Below.refl _ _).alloc (Nat.le_refl _) _
    have q := zl_two ((Zb.out.now bb).more (show 1048576 ≤ 2097153 by decide)) ((Zt.out.now bb).more (show 1048576 ≤ 2097153 by decide))
    rw [show (V7.alloc (.cells #[(.bool na), (.slice ada xa.length ca), (.bool ns), (.slice ads xs.length cs)] 24)).heap.size = w5.heap.size + 1 + 1 + 1 by simp [sz7]] at q
    exact q
  have EU := hid hU
  replace Za := hid (Za.out.now kU)
  replace Zb := hid (Zb.out.now kU)
  replace Zs := hid (Zs.out.now kU)
  replace Zt := hid (Zt.out.now kU)
  replace Zr := hid (Zr.out.now kU)
  replace Zn := hid (Zn.out.now kU)
  replace Pa := hid (Pa.out.step kU)
  replace Pb := hid (Pb.out.step kU)
  replace Ps := hid (Ps.out.step kU)
  replace Pt := hid (Pt.out.step kU)
  replace Pr := hid (Pr.out.step kU)
  replace Pn := hid (Pn.out.step kU)
  replace G := hid (below_step G.out kU)
  have lz9 := (show Below _ _ _ from kU).size
  rw [← EW.out] at EU
  clear kU hU hW
  go_wp2_with fail
  rw [EU.out]
  clear EU EW ca0 ca1 cb0 cb1 cs0 cs1 ct0 ct1 yb0 yb1 yt0 yt1
  refine (crtAll2_zero LV.out LU.out (by decide) (by decide) HP.out (.inl HB.out)).mono ?_
  rintro e w10 ⟨r0, r1, rfl, m0, m1, b⟩
  obtain ⟨nf, xf, adf, qf, rfl, -, -, -, -, -⟩ := id m0
  obtain ⟨nh, xh, adh, qh, rfl, -, -, -, -, -⟩ := id m1
  replace Za := hid (Za.out.now b)
  replace Zb := hid (Zb.out.now b)
  replace Zs := hid (Zs.out.now b)
  replace Zt := hid (Zt.out.now b)
  replace Zr := hid (Zr.out.now b)
  replace Zn := hid (Zn.out.now b)
  replace Pa := hid (Pa.out.step b)
  replace Pb := hid (Pb.out.step b)
  replace Ps := hid (Ps.out.step b)
  replace Pt := hid (Pt.out.step b)
  replace Pr := hid (Pr.out.step b)
  replace Pn := hid (Pn.out.step b)
  replace G := hid (below_step G.out b)
  have lz11 := (show Below _ _ _ from b).size
  have Zf := hid m0
  have Zh := hid m1
  clear b m0 m1
  clear LV LU HP
  obtain ⟨V12, hW⟩ : ∃ V12, (w10.alloc (duo (.bool nf) (.slice adf xf.length qf))).alloc (duo (.bool nh) (.slice adh xh.length qh)) = V12 := ⟨_, rfl⟩
  obtain ⟨kW, sz12⟩ := alloc2 w10 (duo (.bool nf) (.slice adf xf.length qf)) (duo (.bool nh) (.slice adh xh.length qh))
  rw [hW] at kW sz12
  replace Za := hid (Za.out.now kW)
  replace Zb := hid (Zb.out.now kW)
  replace Zs := hid (Zs.out.now kW)
  replace Zt := hid (Zt.out.now kW)
  replace Zr := hid (Zr.out.now kW)
  replace Zn := hid (Zn.out.now kW)
  replace Zf := hid (Zf.out.now kW)
  replace Zh := hid (Zh.out.now kW)
  replace Pa := hid (Pa.out.step kW)
  replace Pb := hid (Pb.out.step kW)
  replace Ps := hid (Ps.out.step kW)
  replace Pt := hid (Pt.out.step kW)
  replace Pr := hid (Pr.out.step kW)
  replace Pn := hid (Pn.out.step kW)
  replace G := hid (below_step G.out kW)
  have lz13 := (show Below _ _ _ from kW).size
  have Pf : Hid (Duo V12 (w10.heap.size) (.bool nf) (.slice adf xf.length qf)) := by unfold Hid; rw [← hW]; exact duo_late (duo_at (by simp)) _
  have Ph : Hid (Duo V12 (w10.heap.size + 1) (.bool nh) (.slice adh xh.length qh)) := by unfold Hid; rw [← hW]; exact duo_at (by simp)
  clear kW
  have qe : ((4 : Int) != 4) = false := rfl
  have cr0 := Pr.out.c0
  have cr1 := Pr.out.c1
  have cf0 := Pf.out.c0
  have cf1 := Pf.out.c1
  rw [← hW] at cr0 cr1 cf0 cf1
  have EW := hid hW
  clear hW
  go_wp2_with fail
  rw [EW.out]
  clear EW
  clear cr0 cr1 cf0 cf1
  refine (alike6_yes Zr.out.zc Zf.out.zc rfl).mono ?_
  rintro e w14 ⟨rfl, b⟩
  replace Za := hid (Za.out.now b)
  replace Zb := hid (Zb.out.now b)
  replace Zs := hid (Zs.out.now b)
  replace Zt := hid (Zt.out.now b)
  replace Zr := hid (Zr.out.now b)
  replace Zn := hid (Zn.out.now b)
  replace Zf := hid (Zf.out.now b)
  replace Zh := hid (Zh.out.now b)
  replace Pa := hid (Pa.out.step b)
  replace Pb := hid (Pb.out.step b)
  replace Ps := hid (Ps.out.step b)
  replace Pt := hid (Pt.out.step b)
  replace Pr := hid (Pr.out.step b)
  replace Pn := hid (Pn.out.step b)
  replace Pf := hid (Pf.out.step b)
  replace Ph := hid (Ph.out.step b)
  replace G := hid (below_step G.out b)
  have lz15 := (show Below _ _ _ from b).size
  clear b 
  have cn0 := Pn.out.c0
  have cn1 := Pn.out.c1
  have ch0 := Ph.out.c0
  have ch1 := Ph.out.c1
  go_wp2_with fail
  clear cn0 cn1 ch0 ch1
  refine (alike6_yes Zn.out.zc Zh.out.zc rfl).mono ?_
  rintro e w16 ⟨rfl, b⟩
  replace Za := hid (Za.out.now b)
  replace Zb := hid (Zb.out.now b)
  replace Zs := hid (Zs.out.now b)
  replace Zt := hid (Zt.out.now b)
  replace Zr := hid (Zr.out.now b)
  replace Zn := hid (Zn.out.now b)
  replace Zf := hid (Zf.out.now b)
  replace Zh := hid (Zh.out.now b)
  replace Pa := hid (Pa.out.step b)
  replace Pb := hid (Pb.out.step b)
  replace Ps := hid (Ps.out.step b)
  replace Pt := hid (Pt.out.step b)
  replace Pr := hid (Pr.out.step b)
  replace Pn := hid (Pn.out.step b)
  replace Pf := hid (Pf.out.step b)
  replace Ph := hid (Ph.out.step b)
  replace G := hid (below_step G.out b)
  have lz17 := (show Below _ _ _ from b).size
  clear b 
  have q0 : ((0 : Int) == 0) = true := rfl
  have q4 : ((4 : Int) == 4) = true := rfl
  have cb0 := Pb.out.c0
  have cb1 := Pb.out.c1
  go_wp2_with fail
  clear cb0 cb1
  refine (int_as6 (rsign_z Zb.out (by decide)) (show cmpI B 0 = 0 by rw [HB.out]; exact cmpI_self 0)).mono ?_
  rintro e w18 ⟨rfl, b⟩
  replace Za := hid (Za.out.now b)
  replace Zb := hid (Zb.out.now b)
  replace Zs := hid (Zs.out.now b)
  replace Zt := hid (Zt.out.now b)
  replace Zr := hid (Zr.out.now b)
  replace Zn := hid (Zn.out.now b)
  replace Zf := hid (Zf.out.now b)
  replace Zh := hid (Zh.out.now b)
  replace Pa := hid (Pa.out.step b)
  replace Pb := hid (Pb.out.step b)
  replace Ps := hid (Ps.out.step b)
  replace Pt := hid (Pt.out.step b)
  replace Pr := hid (Pr.out.step b)
  replace Pn := hid (Pn.out.step b)
  replace Pf := hid (Pf.out.step b)
  replace Ph := hid (Ph.out.step b)
  replace G := hid (below_step G.out b)
  have lz19 := (show Below _ _ _ from b).size
  clear b 
  have cr0 := Pr.out.c0
  have cr1 := Pr.out.c1
  go_wp2_with fail
  clear cr0 cr1
  refine (alike6_yes Zr.out.zc (zc_nil _ 0) rfl).mono ?_
  rintro e w20 ⟨rfl, b⟩
  replace Za := hid (Za.out.now b)
  replace Zb := hid (Zb.out.now b)
  replace Zs := hid (Zs.out.now b)
  replace Zt := hid (Zt.out.now b)
  replace Zr := hid (Zr.out.now b)
  replace Zn := hid (Zn.out.now b)
  replace Zf := hid (Zf.out.now b)
  replace Zh := hid (Zh.out.now b)
  replace Pa := hid (Pa.out.step b)
  replace Pb := hid (Pb.out.step b)
  replace Ps := hid (Ps.out.step b)
  replace Pt := hid (Pt.out.step b)
  replace Pr := hid (Pr.out.step b)
  replace Pn := hid (Pn.out.step b)
  replace Pf := hid (Pf.out.step b)
  replace Ph := hid (Ph.out.step b)
  replace G := hid (below_step G.out b)
  have lz21 := (show Below _ _ _ from b).size
  clear b 
  have cn0 := Pn.out.c0
  have cn1 := Pn.out.c1
  go_wp2_with fail
  clear cn0 cn1
  refine (alike6_yes Zn.out.zc (zc_nil _ 0) rfl).mono ?_
  rintro e w22 ⟨rfl, b⟩
  replace Za := hid (Za.out.now b)
  replace Zb := hid (Zb.out.now b)
  replace Zs := hid (Zs.out.now b)
  replace Zt := hid (Zt.out.now b)
  replace Zr := hid (Zr.out.now b)
  replace Zn := hid (Zn.out.now b)
  replace Zf := hid (Zf.out.now b)
  replace Zh := hid (Zh.out.now b)
  replace Pa := hid (Pa.out.step b)
  replace Pb := hid (Pb.out.step b)
  replace Ps := hid (Ps.out.step b)
  replace Pt := hid (Pt.out.step b)
  replace Pr := hid (Pr.out.step b)
  replace Pn := hid (Pn.out.step b)
  replace Pf := hid (Pf.out.step b)
  replace Ph := hid (Ph.out.step b)
  replace G := hid (below_step G.out b)
  have lz23 := (show Below _ _ _ from b).size
  clear b 
  go_wp2
  go_ret
  exact ⟨rfl, G.out⟩

set_option maxHeartbeats 51200000 in
set_option maxRecDepth 100000 in
theorem meets_z2 {w : World} {v0 v1 v2 v3 v4 v5 v6 v7 : Value} {A B S T : Int} (ha : Zi w (.agg #[v0, v1]) A 1048576) (hb : Zi w (.agg #[v2, v3]) B 1048576) (hs : Zi w (.agg #[v4, v5]) S 1048576) (ht : Zi w (.agg #[v6, v7]) T 1048576) (hB : B ≠ 0) (hT : T = 0) :
    Calls Try.prog 8 #[.agg #[v0, v1, v2, v3, v4, v5, v6, v7]] w fun e w' => e = .returned (.bool true) ∧ Below w.heap.size w w' := by
  have HB := hid hB
  clear hB
  have HT := hid hT
  clear hT
  have HP := hid (two_fit (k := 2097153) hb.lt ht.lt (by decide) (by decide))
  have za0 := ha
  obtain ⟨na, xa, ada, ca, rfl, rfl⟩ := ha.comp
  clear ha
  have zb0 := hb
  obtain ⟨nb, xb, adb, cb, rfl, rfl⟩ := hb.comp
  clear hb
  have zs0 := hs
  obtain ⟨ns, xs, ads, cs, rfl, rfl⟩ := hs.comp
  clear hs
  have zt0 := ht
  obtain ⟨nt, xt, adt, ct, rfl, rfl⟩ := ht.comp
  clear ht
  obtain ⟨W0, hW⟩ : ∃ W0, w.alloc (.cells #[(.bool na), (.slice ada xa.length ca), (.bool nb), (.slice adb xb.length cb), (.bool ns), (.slice ads xs.length cs), (.bool nt), (.slice adt xt.length ct)] 52) = W0 := ⟨_, rfl⟩
  obtain ⟨b0, sz0⟩ := alloc1 w (.cells #[(.bool na), (.slice ada xa.length ca), (.bool nb), (.slice adb xb.length cb), (.bool ns), (.slice ads xs.length cs), (.bool nt), (.slice adt xt.length ct)] 52)
  rw [hW] at b0 sz0
  have PXA : Hid (Cel W0 (w.heap.size) 52 [(.bool na), (.slice ada xa.length ca), (.bool nb), (.slice adb xb.length cb), (.bool ns), (.slice ads xs.length cs), (.bool nt), (.slice adt xt.length ct)]) := by unfold Hid; rw [← hW]; exact Cel.new _ _ _
  have Za := hid (za0.now b0)
  clear za0
  have Zb := hid (zb0.now b0)
  clear zb0
  have Zs := hid (zs0.now b0)
  clear zs0
  have Zt := hid (zt0.now b0)
  clear zt0
  have G := hid b0
  clear b0
  have EW := hid hW
  clear hW
  go_enter Try.func8, Try.ntmps8
  skip
  go_wp2_with fail
  rw [EW.out]
  clear EW
  refine (wakes6 _).mono ?_
  rintro e w1 ⟨rfl, b⟩
  replace Za := hid (Za.out.now b)
  replace Zb := hid (Zb.out.now b)
  replace Zs := hid (Zs.out.now b)
  replace Zt := hid (Zt.out.now b)
  replace PXA := hid (PXA.out.step b)
  replace G := hid (below_step G.out b)
  have lz2 := (show Below _ _ _ from b).size
  clear b 
  have cXA0 := (PXA.out.at (i := 0) rfl)
  have cXA1 := (PXA.out.at (i := 1) rfl)
  have cXA2 := (PXA.out.at (i := 2) rfl)
  have cXA3 := (PXA.out.at (i := 3) rfl)
  have cXA4 := (PXA.out.at (i := 4) rfl)
  have cXA5 := (PXA.out.at (i := 5) rfl)
  have cXA6 := (PXA.out.at (i := 6) rfl)
  have cXA7 := (PXA.out.at (i := 7) rfl)
  have lxa := PXA.out.blk
  have xq6 := (PXA.out.step (alloc3 w1 (duo (.bool na) (.slice ada xa.length ca)) (duo (.bool nb) (.slice adb xb.length cb)) (duo (.bool ns) (.slice ads xs.length cs))).1).at (i := 6) rfl
  have xq7 := (PXA.out.step (alloc3 w1 (duo (.bool na) (.slice ada xa.length ca)) (duo (.bool nb) (.slice adb xb.length cb)) (duo (.bool ns) (.slice ads xs.length cs))).1).at (i := 7) rfl
  obtain ⟨V3, hW⟩ : ∃ V3, (((w1.alloc (duo (.bool na) (.slice ada xa.length ca))).alloc (duo (.bool nb) (.slice adb xb.length cb))).alloc (duo (.bool ns) (.slice ads xs.length cs))).alloc (duo (.bool nt) (.slice adt xt.length ct)) = V3 := ⟨_, rfl⟩
  obtain ⟨kW, sz3⟩ := alloc4 w1 (duo (.bool na) (.slice ada xa.length ca)) (duo (.bool nb) (.slice adb xb.length cb)) (duo (.bool ns) (.slice ads xs.length cs)) (duo (.bool nt) (.slice adt xt.length ct))
  rw [hW] at kW sz3
  replace Za := hid (Za.out.now kW)
  replace Zb := hid (Zb.out.now kW)
  replace Zs := hid (Zs.out.now kW)
  replace Zt := hid (Zt.out.now kW)
  replace PXA := hid (PXA.out.step kW)
  replace G := hid (below_step G.out kW)
  have lz4 := (show Below _ _ _ from kW).size
  have Pa : Hid (Duo V3 (w1.heap.size) (.bool na) (.slice ada xa.length ca)) := by unfold Hid; rw [← hW]; exact duo_late (duo_late (duo_late (duo_at (by simp)) _) _) _
  have Pb : Hid (Duo V3 (w1.heap.size + 1) (.bool nb) (.slice adb xb.length cb)) := by unfold Hid; rw [← hW]; exact duo_late (duo_late (duo_at (by simp)) _) _
  have Ps : Hid (Duo V3 (w1.heap.size + 1 + 1) (.bool ns) (.slice ads xs.length cs)) := by unfold Hid; rw [← hW]; exact duo_late (duo_at (by simp)) _
  have Pt : Hid (Duo V3 (w1.heap.size + 1 + 1 + 1) (.bool nt) (.slice adt xt.length ct)) := by unfold Hid; rw [← hW]; exact duo_at (by simp)
  clear kW
  have ca0 := Pa.out.c0
  have ca1 := Pa.out.c1
  have cb0 := Pb.out.c0
  have cb1 := Pb.out.c1
  have cs0 := Ps.out.c0
  have cs1 := Ps.out.c1
  have ct0 := Pt.out.c0
  have ct1 := Pt.out.c1
  rw [← hW] at ca0 ca1 cb0 cb1 cs0 cs1 ct0 ct1
  have EW := hid hW
  clear hW
  go_wp2_with fail
  rw [EW.out]
  clear EW
  clear ca0 ca1 cb0 cb1 cs0 cs1 ct0 ct1
  clear cXA0 cXA1 cXA2 cXA3 cXA4 cXA5 cXA6 cXA7 xq6 xq7
  clear PXA
  refine (crt_z2 Za.out Zb.out Zs.out Zt.out (by decide) (by decide) HB.out HT.out).mono ?_
  rintro e w5 ⟨r0, r1, rfl, m0, m1, b⟩
  obtain ⟨nr, xr, adr, qr, rfl, -, -, -, -, -⟩ := id m0
  obtain ⟨nn, xn, adn, qn, rfl, -, -, -, -, -⟩ := id m1
  replace Za := hid (Za.out.now b)
  replace Zb := hid (Zb.out.now b)
  replace Zs := hid (Zs.out.now b)
  replace Zt := hid (Zt.out.now b)
  replace Pa := hid (Pa.out.step b)
  replace Pb := hid (Pb.out.step b)
  replace Ps := hid (Ps.out.step b)
  replace Pt := hid (Pt.out.step b)
  replace G := hid (below_step G.out b)
  have lz6 := (show Below _ _ _ from b).size
  have Zr := hid m0
  have Zn := hid m1
  clear b m0 m1
  obtain ⟨V7, hW⟩ : ∃ V7, (w5.alloc (duo (.bool nr) (.slice adr xr.length qr))).alloc (duo (.bool nn) (.slice adn xn.length qn)) = V7 := ⟨_, rfl⟩
  obtain ⟨kW, sz7⟩ := alloc2 w5 (duo (.bool nr) (.slice adr xr.length qr)) (duo (.bool nn) (.slice adn xn.length qn))
  rw [hW] at kW sz7
  replace Za := hid (Za.out.now kW)
  replace Zb := hid (Zb.out.now kW)
  replace Zs := hid (Zs.out.now kW)
  replace Zt := hid (Zt.out.now kW)
  replace Zr := hid (Zr.out.now kW)
  replace Zn := hid (Zn.out.now kW)
  replace Pa := hid (Pa.out.step kW)
  replace Pb := hid (Pb.out.step kW)
  replace Ps := hid (Ps.out.step kW)
  replace Pt := hid (Pt.out.step kW)
  replace G := hid (below_step G.out kW)
  have lz8 := (show Below _ _ _ from kW).size
  have Pr : Hid (Duo V7 (w5.heap.size) (.bool nr) (.slice adr xr.length qr)) := by unfold Hid; rw [← hW]; exact duo_late (duo_at (by simp)) _
  have Pn : Hid (Duo V7 (w5.heap.size + 1) (.bool nn) (.slice adn xn.length qn)) := by unfold Hid; rw [← hW]; exact duo_at (by simp)
  clear kW
  have ca0 := Pa.out.c0
  have ca1 := Pa.out.c1
  have cb0 := Pb.out.c0
  have cb1 := Pb.out.c1
  have cs0 := Ps.out.c0
  have cs1 := Ps.out.c1
  have ct0 := Pt.out.c0
  have ct1 := Pt.out.c1
  rw [← hW] at ca0 ca1 cb0 cb1 cs0 cs1 ct0 ct1
  have bo1 : Below V7.heap.size V7 (V7.alloc (.cells #[(.bool na), (.slice ada xa.length ca), (.bool ns), (.slice ads xs.length cs)] 24)) := (Below.refl _ _).alloc (Nat.le_refl _) _
  have yb0 := (Pb.out.step bo1).c0
  have yb1 := (Pb.out.step bo1).c1
  have yt0 := (Pt.out.step bo1).c0
  have yt1 := (Pt.out.step bo1).c1
  clear bo1
  rw [← hW] at yb0 yb1 yt0 yt1
  have EW := hid hW
  obtain ⟨U0, hU⟩ : ∃ U0, (V7.alloc (.cells #[(.bool na), (.slice ada xa.length ca), (.bool ns), (.slice ads xs.length cs)] 24)).alloc (.cells #[(.bool nb), (.slice adb xb.length cb), (.bool nt), (.slice adt xt.length ct)] 24) = U0 := ⟨_, rfl⟩
  obtain ⟨kU, szU⟩ := alloc2 V7 (.cells #[(.bool na), (.slice ada xa.length ca), (.bool ns), (.slice ads xs.length cs)] 24) (.cells #[(.bool nb), (.slice adb xb.length cb), (.bool nt), (.slice adt xt.length ct)] 24)
  rw [hU] at kU szU
  have LV : Hid (Zl U0 (.slice (some ⟨w5.heap.size + 1 + 1, 0, none⟩) 2 2) [A, S] 2097153) := by
    unfold Hid
    rw [← hU]
    have q := (zl_two (Za.out.more (show 1048576 ≤ 2097153 by decide)) (Zs.out.more (show 1048576 ≤ 2097153 by decide))).now ((Below.refl _ _).alloc (Nat.le_refl _) (.cells #[(.bool nb), (.slice adb xb.length cb), (.bool nt), (.slice adt xt.length ct)] 24))
    rw [sz7] at q
    exact q
  have LU : Hid (Zl U0 (.slice (some ⟨w5.heap.size + 1 + 1 + 1, 0, none⟩) 2 2) [B, T] 2097153) := by
    unfold Hid
    rw [← hU]
    have bb : Below V7.heap.size V7 (V7.alloc (.cells #[(.bool na), (.slice ada xa.length ca), (.bool ns), (.slice ads xs.length cs)] 24)) := (Below.refl _ _).alloc (Nat.le_refl _) _
    have q := zl_two ((Zb.out.now bb).more (show 1048576 ≤ 2097153 by decide)) ((Zt.out.now bb).more (show 1048576 ≤ 2097153 by decide))
    rw [show (V7.alloc (.cells #[(.bool na), (.slice ada xa.length ca), (.bool ns), (.slice ads xs.length cs)] 24)).heap.size = w5.heap.size + 1 + 1 + 1 by simp [sz7]] at q
    exact q
  have EU := hid hU
  replace Za := hid (Za.out.now kU)
  replace Zb := hid (Zb.out.now kU)
  replace Zs := hid (Zs.out.now kU)
  replace Zt := hid (Zt.out.now kU)
  replace Zr := hid (Zr.out.now kU)
  replace Zn := hid (Zn.out.now kU)
  replace Pa := hid (Pa.out.step kU)
  replace Pb := hid (Pb.out.step kU)
  replace Ps := hid (Ps.out.step kU)
  replace Pt := hid (Pt.out.step kU)
  replace Pr := hid (Pr.out.step kU)
  replace Pn := hid (Pn.out.step kU)
  replace G := hid (below_step G.out kU)
  have lz9 := (show Below _ _ _ from kU).size
  rw [← EW.out] at EU
  clear kU hU hW
  go_wp2_with fail
  rw [EU.out]
  clear EU EW ca0 ca1 cb0 cb1 cs0 cs1 ct0 ct1 yb0 yb1 yt0 yt1
  refine (crtAll2_zero LV.out LU.out (by decide) (by decide) HP.out (.inr HT.out)).mono ?_
  rintro e w10 ⟨r0, r1, rfl, m0, m1, b⟩
  obtain ⟨nf, xf, adf, qf, rfl, -, -, -, -, -⟩ := id m0
  obtain ⟨nh, xh, adh, qh, rfl, -, -, -, -, -⟩ := id m1
  replace Za := hid (Za.out.now b)
  replace Zb := hid (Zb.out.now b)
  replace Zs := hid (Zs.out.now b)
  replace Zt := hid (Zt.out.now b)
  replace Zr := hid (Zr.out.now b)
  replace Zn := hid (Zn.out.now b)
  replace Pa := hid (Pa.out.step b)
  replace Pb := hid (Pb.out.step b)
  replace Ps := hid (Ps.out.step b)
  replace Pt := hid (Pt.out.step b)
  replace Pr := hid (Pr.out.step b)
  replace Pn := hid (Pn.out.step b)
  replace G := hid (below_step G.out b)
  have lz11 := (show Below _ _ _ from b).size
  have Zf := hid m0
  have Zh := hid m1
  clear b m0 m1
  clear LV LU HP
  obtain ⟨V12, hW⟩ : ∃ V12, (w10.alloc (duo (.bool nf) (.slice adf xf.length qf))).alloc (duo (.bool nh) (.slice adh xh.length qh)) = V12 := ⟨_, rfl⟩
  obtain ⟨kW, sz12⟩ := alloc2 w10 (duo (.bool nf) (.slice adf xf.length qf)) (duo (.bool nh) (.slice adh xh.length qh))
  rw [hW] at kW sz12
  replace Za := hid (Za.out.now kW)
  replace Zb := hid (Zb.out.now kW)
  replace Zs := hid (Zs.out.now kW)
  replace Zt := hid (Zt.out.now kW)
  replace Zr := hid (Zr.out.now kW)
  replace Zn := hid (Zn.out.now kW)
  replace Zf := hid (Zf.out.now kW)
  replace Zh := hid (Zh.out.now kW)
  replace Pa := hid (Pa.out.step kW)
  replace Pb := hid (Pb.out.step kW)
  replace Ps := hid (Ps.out.step kW)
  replace Pt := hid (Pt.out.step kW)
  replace Pr := hid (Pr.out.step kW)
  replace Pn := hid (Pn.out.step kW)
  replace G := hid (below_step G.out kW)
  have lz13 := (show Below _ _ _ from kW).size
  have Pf : Hid (Duo V12 (w10.heap.size) (.bool nf) (.slice adf xf.length qf)) := by unfold Hid; rw [← hW]; exact duo_late (duo_at (by simp)) _
  have Ph : Hid (Duo V12 (w10.heap.size + 1) (.bool nh) (.slice adh xh.length qh)) := by unfold Hid; rw [← hW]; exact duo_at (by simp)
  clear kW
  have qe : ((4 : Int) != 4) = false := rfl
  have cr0 := Pr.out.c0
  have cr1 := Pr.out.c1
  have cf0 := Pf.out.c0
  have cf1 := Pf.out.c1
  rw [← hW] at cr0 cr1 cf0 cf1
  have EW := hid hW
  clear hW
  go_wp2_with fail
  rw [EW.out]
  clear EW
  clear cr0 cr1 cf0 cf1
  refine (alike6_yes Zr.out.zc Zf.out.zc rfl).mono ?_
  rintro e w14 ⟨rfl, b⟩
  replace Za := hid (Za.out.now b)
  replace Zb := hid (Zb.out.now b)
  replace Zs := hid (Zs.out.now b)
  replace Zt := hid (Zt.out.now b)
  replace Zr := hid (Zr.out.now b)
  replace Zn := hid (Zn.out.now b)
  replace Zf := hid (Zf.out.now b)
  replace Zh := hid (Zh.out.now b)
  replace Pa := hid (Pa.out.step b)
  replace Pb := hid (Pb.out.step b)
  replace Ps := hid (Ps.out.step b)
  replace Pt := hid (Pt.out.step b)
  replace Pr := hid (Pr.out.step b)
  replace Pn := hid (Pn.out.step b)
  replace Pf := hid (Pf.out.step b)
  replace Ph := hid (Ph.out.step b)
  replace G := hid (below_step G.out b)
  have lz15 := (show Below _ _ _ from b).size
  clear b 
  have cn0 := Pn.out.c0
  have cn1 := Pn.out.c1
  have ch0 := Ph.out.c0
  have ch1 := Ph.out.c1
  go_wp2_with fail
  clear cn0 cn1 ch0 ch1
  refine (alike6_yes Zn.out.zc Zh.out.zc rfl).mono ?_
  rintro e w16 ⟨rfl, b⟩
  replace Za := hid (Za.out.now b)
  replace Zb := hid (Zb.out.now b)
  replace Zs := hid (Zs.out.now b)
  replace Zt := hid (Zt.out.now b)
  replace Zr := hid (Zr.out.now b)
  replace Zn := hid (Zn.out.now b)
  replace Zf := hid (Zf.out.now b)
  replace Zh := hid (Zh.out.now b)
  replace Pa := hid (Pa.out.step b)
  replace Pb := hid (Pb.out.step b)
  replace Ps := hid (Ps.out.step b)
  replace Pt := hid (Pt.out.step b)
  replace Pr := hid (Pr.out.step b)
  replace Pn := hid (Pn.out.step b)
  replace Pf := hid (Pf.out.step b)
  replace Ph := hid (Ph.out.step b)
  replace G := hid (below_step G.out b)
  have lz17 := (show Below _ _ _ from b).size
  clear b 
  have q0 : ((0 : Int) == 0) = true := rfl
  have q4 : ((4 : Int) == 4) = true := rfl
  have bB : (cmpI B 0 == 0) = false := by rw [beq_eq_false_iff_ne]; exact fun e => HB.out (cmpI_zero e)
  have HSB : Hid (∀ w' v, Zi w' v B 1048576 → _) := fun (w' : World) (v : Value) (h : Zi w' v B 1048576) => rsign_z h (by decide)
  generalize cmpI B 0 = SB at *
  have cb0 := Pb.out.c0
  have cb1 := Pb.out.c1
  go_wp2_with fail
  clear cb0 cb1
  refine (HSB.out _ _ Zb.out).mono ?_
  rintro e w18 ⟨rfl, b⟩
  replace Za := hid (Za.out.now b)
  replace Zb := hid (Zb.out.now b)
  replace Zs := hid (Zs.out.now b)
  replace Zt := hid (Zt.out.now b)
  replace Zr := hid (Zr.out.now b)
  replace Zn := hid (Zn.out.now b)
  replace Zf := hid (Zf.out.now b)
  replace Zh := hid (Zh.out.now b)
  replace Pa := hid (Pa.out.step b)
  replace Pb := hid (Pb.out.step b)
  replace Ps := hid (Ps.out.step b)
  replace Pt := hid (Pt.out.step b)
  replace Pr := hid (Pr.out.step b)
  replace Pn := hid (Pn.out.step b)
  replace Pf := hid (Pf.out.step b)
  replace Ph := hid (Ph.out.step b)
  replace G := hid (below_step G.out b)
  have lz19 := (show Below _ _ _ from b).size
  clear b 
  have ct0 := Pt.out.c0
  have ct1 := Pt.out.c1
  go_wp2_with fail
  clear ct0 ct1
  refine (int_as6 (rsign_z Zt.out (by decide)) (show cmpI T 0 = 0 by rw [HT.out]; exact cmpI_self 0)).mono ?_
  rintro e w20 ⟨rfl, b⟩
  replace Za := hid (Za.out.now b)
  replace Zb := hid (Zb.out.now b)
  replace Zs := hid (Zs.out.now b)
  replace Zt := hid (Zt.out.now b)
  replace Zr := hid (Zr.out.now b)
  replace Zn := hid (Zn.out.now b)
  replace Zf := hid (Zf.out.now b)
  replace Zh := hid (Zh.out.now b)
  replace Pa := hid (Pa.out.step b)
  replace Pb := hid (Pb.out.step b)
  replace Ps := hid (Ps.out.step b)
  replace Pt := hid (Pt.out.step b)
  replace Pr := hid (Pr.out.step b)
  replace Pn := hid (Pn.out.step b)
  replace Pf := hid (Pf.out.step b)
  replace Ph := hid (Ph.out.step b)
  replace G := hid (below_step G.out b)
  have lz21 := (show Below _ _ _ from b).size
  clear b 
  have cr0 := Pr.out.c0
  have cr1 := Pr.out.c1
  go_wp2_with fail
  clear cr0 cr1
  refine (alike6_yes Zr.out.zc (zc_nil _ 0) rfl).mono ?_
  rintro e w22 ⟨rfl, b⟩
  replace Za := hid (Za.out.now b)
  replace Zb := hid (Zb.out.now b)
  replace Zs := hid (Zs.out.now b)
  replace Zt := hid (Zt.out.now b)
  replace Zr := hid (Zr.out.now b)
  replace Zn := hid (Zn.out.now b)
  replace Zf := hid (Zf.out.now b)
  replace Zh := hid (Zh.out.now b)
  replace Pa := hid (Pa.out.step b)
  replace Pb := hid (Pb.out.step b)
  replace Ps := hid (Ps.out.step b)
  replace Pt := hid (Pt.out.step b)
  replace Pr := hid (Pr.out.step b)
  replace Pn := hid (Pn.out.step b)
  replace Pf := hid (Pf.out.step b)
  replace Ph := hid (Ph.out.step b)
  replace G := hid (below_step G.out b)
  have lz23 := (show Below _ _ _ from b).size
  clear b 
  have cn0 := Pn.out.c0
  have cn1 := Pn.out.c1
  go_wp2_with fail
  clear cn0 cn1
  refine (alike6_yes Zn.out.zc (zc_nil _ 0) rfl).mono ?_
  rintro e w24 ⟨rfl, b⟩
  replace Za := hid (Za.out.now b)
  replace Zb := hid (Zb.out.now b)
  replace Zs := hid (Zs.out.now b)
  replace Zt := hid (Zt.out.now b)
  replace Zr := hid (Zr.out.now b)
  replace Zn := hid (Zn.out.now b)
  replace Zf := hid (Zf.out.now b)
  replace Zh := hid (Zh.out.now b)
  replace Pa := hid (Pa.out.step b)
  replace Pb := hid (Pb.out.step b)
  replace Ps := hid (Ps.out.step b)
  replace Pt := hid (Pt.out.step b)
  replace Pr := hid (Pr.out.step b)
  replace Pn := hid (Pn.out.step b)
  replace Pf := hid (Pf.out.step b)
  replace Ph := hid (Ph.out.step b)
  replace G := hid (below_step G.out b)
  have lz25 := (show Below _ _ _ from b).size
  clear b 
  go_wp2
  go_ret
  exact ⟨rfl, G.out⟩
end Go.Proofs.Ythdnnphpjdchnaa
