/-
  Meet2: BezoutMeets where they do.
-/
import Derived.Test.YthdnnphpjdchnaaQMeet0
namespace Go.Proofs.Ythdnnphpjdchnaa
open Go.RowKit
set_option linter.unusedVariables false

set_option maxHeartbeats 51200000 in
set_option maxRecDepth 100000 in
theorem meets_some {w : World} {v0 v1 v2 v3 v4 v5 v6 v7 : Value} {A B S T : Int} (ha : Zi w (.agg #[v0, v1]) A 1048576) (hb : Zi w (.agg #[v2, v3]) B 1048576) (hs : Zi w (.agg #[v4, v5]) S 1048576) (ht : Zi w (.agg #[v6, v7]) T 1048576) (hB : B ≠ 0) (hT : T ≠ 0) (hg : (Int.gcd B T : Int) ∣ S - A) :
    Calls Try.prog 8 #[.agg #[v0, v1, v2, v3, v4, v5, v6, v7]] w fun e w' => e = .returned (.bool true) ∧ Below w.heap.size w w' := by
  have HB := hid hB
  clear hB
  have HT := hid hT
  clear hT
  have HG := hid hg
  clear hg
  have HP := hid (two_fit (k := 2097153) hb.lt ht.lt (by decide) (by decide))
  have za0 := ha
  obtain ⟨na, xa, ada, ca, rfl, rfl⟩ := ha.comp
  clear ha
  have zb0 := hb
  obtain ⟨nb, xb, adb, cb, rfl, rfl⟩ := hb.comp
  clear hb
  have zs0 := hs
  obtain ⟨ns, xs, ads, cs, rfl, rfl⟩ := hs.comp
  clear hs
  have zt0 := ht
  obtain ⟨nt, xt, adt, ct, rfl, rfl⟩ := ht.comp
  clear ht
  obtain ⟨W0, hW⟩ : ∃ W0, w.alloc (.cells #[(.bool na), (.slice ada xa.length ca), (.bool nb), (.slice adb xb.length cb), (.bool ns), (.slice ads xs.length cs), (.bool nt), (.slice adt xt.length ct)] 52) = W0 := ⟨_, rfl⟩
  obtain ⟨b0, sz0⟩ := alloc1 w (.cells #[(.bool na), (.slice ada xa.length ca), (.bool nb), (.slice adb xb.length cb), (.bool ns), (.slice ads xs.length cs), (.bool nt), (.slice adt xt.length ct)] 52)
  rw [hW] at b0 sz0
  have PXA : Hid (Cel W0 (w.heap.size) 52 [(.bool na), (.slice ada xa.length ca), (.bool nb), (.slice adb xb.length cb), (.bool ns), (.slice ads xs.length cs), (.bool nt), (.slice adt xt.length ct)]) := by unfold Hid; rw [← hW]; exact Cel.new _ _ _
  have Za := hid (za0.now b0)
  clear za0
  have Zb := hid (zb0.now b0)
  clear zb0
  have Zs := hid (zs0.now b0)
  clear zs0
  have Zt := hid (zt0.now b0)
  clear zt0
  have G := hid b0
  clear b0
  have EW := hid hW
  clear hW
  go_enter Try.func8, Try.ntmps8
  skip
  go_wp2_with fail
  rw [EW.out]
  clear EW
  refine (wakes6 _).mono ?_
  rintro e w1 ⟨rfl, b⟩
  replace Za := hid (Za.out.now b)
  replace Zb := hid (Zb.out.now b)
  replace Zs := hid (Zs.out.now b)
  replace Zt := hid (Zt.out.now b)
  replace PXA := hid (PXA.out.step b)
  replace G := hid (below_step G.out b)
  have lz2 := (show Below _ _ _ from b).size
  clear b 
  have cXA0 := (PXA.out.at (i := 0) rfl)
  have cXA1 := (PXA.out.at (i := 1) rfl)
  have cXA2 := (PXA.out.at (i := 2) rfl)
  have cXA3 := (PXA.out.at (i := 3) rfl)
  have cXA4 := (PXA.out.at (i := 4) rfl)
  have cXA5 := (PXA.out.at (i := 5) rfl)
  have cXA6 := (PXA.out.at (i := 6) rfl)
  have cXA7 := (PXA.out.at (i := 7) rfl)
  have lxa := PXA.out.blk
  have xq6 := (PXA.out.step (alloc3 w1 (duo (.bool na) (.slice ada xa.length ca)) (duo (.bool nb) (.slice adb xb.length cb)) (duo (.bool ns) (.slice ads xs.length cs))).1).at (i := 6) rfl
  have xq7 := (PXA.out.step (alloc3 w1 (duo (.bool na) (.slice ada xa.length ca)) (duo (.bool nb) (.slice adb xb.length cb)) (duo (.bool ns) (.slice ads xs.length cs))).1).at (i := 7) rfl
  obtain ⟨V3, hW⟩ : ∃ V3, (((w1.alloc (duo (.bool na) (.slice ada xa.length ca))).alloc (duo (.bool nb) (.slice adb xb.length cb))).alloc (duo (.bool ns) (.slice ads xs.length cs))).alloc (duo (.bool nt) (.slice adt xt.length ct)) = V3 := ⟨_, rfl⟩
  obtain ⟨kW, sz3⟩ := alloc4 w1 (duo (.bool na) (.slice ada xa.length ca)) (duo (.bool nb) (.slice adb xb.length cb)) (duo (.bool ns) (.slice ads xs.length cs)) (duo (.bool nt) (.slice adt xt.length ct))
  rw [hW] at kW sz3
  replace Za := hid (Za.out.now kW)
  replace Zb := hid (Zb.out.now kW)
  replace Zs := hid (Zs.out.now kW)
  replace Zt := hid (Zt.out.now kW)
  replace PXA := hid (PXA.out.step kW)
  replace G := hid (below_step G.out kW)
  have lz4 := (show Below _ _ _ from kW).size
  have Pa : Hid (Duo V3 (w1.heap.size) (.bool na) (.slice ada xa.length ca)) := by unfold Hid; rw [← hW]; exact duo_late (duo_late (duo_late (duo_at (by simp)) _) _) _
  have Pb : Hid (Duo V3 (w1.heap.size + 1) (.bool nb) (.slice adb xb.length cb)) := by unfold Hid; rw [← hW]; exact duo_late (duo_late (duo_at (by simp)) _) _
  have Ps : Hid (Duo V3 (w1.heap.size + 1 + 1) (.bool ns) (.slice ads xs.length cs)) := by unfold Hid; rw [← hW]; exact duo_late (duo_at (by simp)) _
  have Pt : Hid (Duo V3 (w1.heap.size + 1 + 1 + 1) (.bool nt) (.slice adt xt.length ct)) := by unfold Hid; rw [← hW]; exact duo_at (by simp)
  clear kW
  have ca0 := Pa.out.c0
  have ca1 := Pa.out.c1
  have cb0 := Pb.out.c0
  have cb1 := Pb.out.c1
  have cs0 := Ps.out.c0
  have cs1 := Ps.out.c1
  have ct0 := Pt.out.c0
  have ct1 := Pt.out.c1
  rw [← hW] at ca0 ca1 cb0 cb1 cs0 cs1 ct0 ct1
  have EW := hid hW
  clear hW
  go_wp2_with fail
  rw [EW.out]
  clear EW
  clear ca0 ca1 cb0 cb1 cs0 cs1 ct0 ct1
  clear cXA0 cXA1 cXA2 cXA3 cXA4 cXA5 cXA6 cXA7 xq6 xq7
  clear PXA
  refine (crt_some (kb := 1048576) (kt := 1048576) Za.out Zb.out Zs.out Zt.out (by decide) (by decide) HB.out HT.out HG.out Zb.out.lt Zt.out.lt).mono ?_
  rintro e w5 ⟨zr, zn, hcv, r0, r1, rfl, m0, m1, b⟩
  obtain ⟨nr, xr, adr, qr, rfl, -, -, -, -, -⟩ := id m0
  obtain ⟨nn, xn, adn, qn, rfl, -, -, -, -, -⟩ := id m1
  have HV := hid hcv
  clear hcv
  replace Za := hid (Za.out.now b)
  replace Zb := hid (Zb.out.now b)
  replace Zs := hid (Zs.out.now b)
  replace Zt := hid (Zt.out.now b)
  replace Pa := hid (Pa.out.step b)
  replace Pb := hid (Pb.out.step b)
  replace Ps := hid (Ps.out.step b)
  replace Pt := hid (Pt.out.step b)
  replace G := hid (below_step G.out b)
  have lz6 := (show Below _ _ _ from b).size
  have Zr := hid m0
  have Zn := hid m1
  clear b m0 m1
  obtain ⟨V7, hW⟩ : ∃ V7, (w5.alloc (duo (.bool nr) (.slice adr xr.length qr))).alloc (duo (.bool nn) (.slice adn xn.length qn)) = V7 := ⟨_, rfl⟩
  obtain ⟨kW, sz7⟩ := alloc2 w5 (duo (.bool nr) (.slice adr xr.length qr)) (duo (.bool nn) (.slice adn xn.length qn))
  rw [hW] at kW sz7
  replace Za := hid (Za.out.now kW)
  replace Zb := hid (Zb.out.now kW)
  replace Zs := hid (Zs.out.now kW)
  replace Zt := hid (Zt.out.now kW)
  replace Zr := hid (Zr.out.now kW)
  replace Zn := hid (Zn.out.now kW)
  replace Pa := hid (Pa.out.step kW)
  replace Pb := hid (Pb.out.step kW)
  replace Ps := hid (Ps.out.step kW)
  replace Pt := hid (Pt.out.step kW)
  replace G := hid (below_step G.out kW)
  have lz8 := (show Below _ _ _ from kW).size
  have Pr : Hid (Duo V7 (w5.heap.size) (.bool nr) (.slice adr xr.length qr)) := by unfold Hid; rw [← hW]; exact duo_late (duo_at (by simp)) _
  have Pn : Hid (Duo V7 (w5.heap.size + 1) (.bool nn) (.slice adn xn.length qn)) := by unfold Hid; rw [← hW]; exact duo_at (by simp)
  clear kW
  have ca0 := Pa.out.c0
  have ca1 := Pa.out.c1
  have cb0 := Pb.out.c0
  have cb1 := Pb.out.c1
  have cs0 := Ps.out.c0
  have cs1 := Ps.out.c1
  have ct0 := Pt.out.c0
  have ct1 := Pt.out.c1
  rw [← hW] at ca0 ca1 cb0 cb1 cs0 cs1 ct0 ct1
  have bo1 : Below V7.heap.size V7 (V7.alloc (.cells #[(.bool na), (.slice ada xa.length ca), (.bool ns), (.slice ads xs.length cs)] 24)) := (Below.refl _ _).alloc (Nat.le_refl _) _
  have yb0 := (Pb.out.step bo1).c0
  have yb1 := (Pb.out.step bo1).c1
  have yt0 := (Pt.out.step bo1).c0
  have yt1 := (Pt.out.step bo1).c1
  clear bo1
  rw [← hW] at yb0 yb1 yt0 yt1
  have EW := hid hW
  obtain ⟨U0, hU⟩ : ∃ U0, (V7.alloc (.cells #[(.bool na), (.slice ada xa.length ca), (.bool ns), (.slice ads xs.length cs)] 24)).alloc (.cells #[(.bool nb), (.slice adb xb.length cb), (.bool nt), (.slice adt xt.length ct)] 24) = U0 := ⟨_, rfl⟩
  obtain ⟨kU, szU⟩ := alloc2 V7 (.cells #[(.bool na), (.slice ada xa.length ca), (.bool ns), (.slice ads xs.length cs)] 24) (.cells #[(.bool nb), (.slice adb xb.length cb), (.bool nt), (.slice adt xt.length ct)] 24)
  rw [hU] at kU szU
  have LV : Hid (Zl U0 (.slice (some ⟨w5.heap.size + 1 + 1, 0, none⟩) 2 2) [A, S] 2097153) := by
    unfold Hid
    rw [← hU]
    have q := (zl_two (Za.out.more (show 1048576 ≤ 2097153 by decide)) (Zs.out.more (show 1048576 ≤ 2097153 by decide))).now ((Below.refl _ _).alloc (Nat.le_refl _) (.cells #[(.bool nb), (.slice adb xb.length cb), (.bool nt), (.slice adt xt.length ct)] 24))
    rw [sz7] at q
    exact q
  have LU : Hid (Zl U0 (.slice (some ⟨w5.heap.size + 1 + 1 + 1, 0, none⟩) 2 2) [B, T] 2097153) := by
    unfold Hid
    rw [← hU]
    have bb : Below V7.heap.size V7 (V7.alloc (.cells #[(.bool na), (.slice ada xa.length ca), (.bool ns), (.slice ads xs.length cs)] 24)) := (Below.refl _ _).alloc (Nat.le_refl _) _
    have q := zl_two ((Zb.out.now bb).more (show 1048576 ≤ 2097153 by decide)) ((Zt.out.now bb).more (show 1048576 ≤ 2097153 by decide))
    rw [show (V7.alloc (.cells #[(.bool na), (.slice ada xa.length ca), (.bool ns), (.slice ads xs.length cs)] 24)).heap.size = w5.heap.size + 1 + 1 + 1 by simp [sz7]] at q
    exact q
  have EU := hid hU
  replace Za := hid (Za.out.now kU)
  replace Zb := hid (Zb.out.now kU)
  replace Zs := hid (Zs.out.now kU)
  replace Zt := hid (Zt.out.now kU)
  replace Zr := hid (Zr.out.now kU)
  replace Zn := hid (Zn.out.now kU)
  replace Pa := hid (Pa.out.step kU)
  replace Pb := hid (Pb.out.step kU)
  replace Ps := hid (Ps.out.step kU)
  replace Pt := hid (Pt.out.step kU)
  replace Pr := hid (Pr.out.step kU)
  replace Pn := hid (Pn.out.step kU)
  replace G := hid (below_step G.out kU)
  have lz9 := (show Below _ _ _ from kU).size
  rw [← EW.out] at EU
  clear kU hU hW
  go_wp2_with fail
  rw [EU.out]
  clear EU EW ca0 ca1 cb0 cb1 cs0 cs1 ct0 ct1 yb0 yb1 yt0 yt1
  refine (crtAll2_some LV.out LU.out (by decide) (by decide) HP.out HB.out HT.out HV.out).mono ?_
  rintro e w10 ⟨r0, r1, rfl, m0, m1, b⟩
  obtain ⟨nf, xf, adf, qf, rfl, -, -, -, -, -⟩ := id m0
  obtain ⟨nh, xh, adh, qh, rfl, -, -, -, -, -⟩ := id m1
  replace Za := hid (Za.out.now b)
  replace Zb := hid (Zb.out.now b)
  replace Zs := hid (Zs.out.now b)
  replace Zt := hid (Zt.out.now b)
  replace Zr := hid (Zr.out.now b)
  replace Zn := hid (Zn.out.now b)
  replace Pa := hid (Pa.out.step b)
  replace Pb := hid (Pb.out.step b)
  replace Ps := hid (Ps.out.step b)
  replace Pt := hid (Pt.out.step b)
  replace Pr := hid (Pr.out.step b)
  replace Pn := hid (Pn.out.step b)
  replace G := hid (below_step G.out b)
  have lz11 := (show Below _ _ _ from b).size
  have Zf := hid m0
  have Zh := hid m1
  clear b m0 m1
  clear LV LU HP
  obtain ⟨V12, hW⟩ : ∃ V12, (w10.alloc (duo (.bool nf) (.slice adf xf.length qf))).alloc (duo (.bool nh) (.slice adh xh.length qh)) = V12 := ⟨_, rfl⟩
  obtain ⟨kW, sz12⟩ := alloc2 w10 (duo (.bool nf) (.slice adf xf.length qf)) (duo (.bool nh) (.slice adh xh.length qh))
  rw [hW] at kW sz12
  replace Za := hid (Za.out.now kW)
  replace Zb := hid (Zb.out.now kW)
  replace Zs := hid (Zs.out.now kW)
  replace Zt := hid (Zt.out.now kW)
  replace Zr := hid (Zr.out.now kW)
  replace Zn := hid (Zn.out.now kW)
  replace Zf := hid (Zf.out.now kW)
  replace Zh := hid (Zh.out.now kW)
  replace Pa := hid (Pa.out.step kW)
  replace Pb := hid (Pb.out.step kW)
  replace Ps := hid (Ps.out.step kW)
  replace Pt := hid (Pt.out.step kW)
  replace Pr := hid (Pr.out.step kW)
  replace Pn := hid (Pn.out.step kW)
  replace G := hid (below_step G.out kW)
  have lz13 := (show Below _ _ _ from kW).size
  have Pf : Hid (Duo V12 (w10.heap.size) (.bool nf) (.slice adf xf.length qf)) := by unfold Hid; rw [← hW]; exact duo_late (duo_at (by simp)) _
  have Ph : Hid (Duo V12 (w10.heap.size + 1) (.bool nh) (.slice adh xh.length qh)) := by unfold Hid; rw [← hW]; exact duo_at (by simp)
  clear kW
  have qe : ((0 : Int) != 0) = false := rfl
  have cr0 := Pr.out.c0
  have cr1 := Pr.out.c1
  have cf0 := Pf.out.c0
  have cf1 := Pf.out.c1
  rw [← hW] at cr0 cr1 cf0 cf1
  have EW := hid hW
  clear hW
  go_wp2_with fail
  rw [EW.out]
  clear EW
  clear cr0 cr1 cf0 cf1
  refine (alike6_yes Zr.out.zc Zf.out.zc rfl).mono ?_
  rintro e w14 ⟨rfl, b⟩
  replace Za := hid (Za.out.now b)
  replace Zb := hid (Zb.out.now b)
  replace Zs := hid (Zs.out.now b)
  replace Zt := hid (Zt.out.now b)
  replace Zr := hid (Zr.out.now b)
  replace Zn := hid (Zn.out.now b)
  replace Zf := hid (Zf.out.now b)
  replace Zh := hid (Zh.out.now b)
  replace Pa := hid (Pa.out.step b)
  replace Pb := hid (Pb.out.step b)
  replace Ps := hid (Ps.out.step b)
  replace Pt := hid (Pt.out.step b)
  replace Pr := hid (Pr.out.step b)
  replace Pn := hid (Pn.out.step b)
  replace Pf := hid (Pf.out.step b)
  replace Ph := hid (Ph.out.step b)
  replace G := hid (below_step G.out b)
  have lz15 := (show Below _ _ _ from b).size
  clear b 
  have cn0 := Pn.out.c0
  have cn1 := Pn.out.c1
  have ch0 := Ph.out.c0
  have ch1 := Ph.out.c1
  go_wp2_with fail
  clear cn0 cn1 ch0 ch1
  refine (alike6_yes Zn.out.zc Zh.out.zc rfl).mono ?_
  rintro e w16 ⟨rfl, b⟩
  replace Za := hid (Za.out.now b)
  replace Zb := hid (Zb.out.now b)
  replace Zs := hid (Zs.out.now b)
  replace Zt := hid (Zt.out.now b)
  replace Zr := hid (Zr.out.now b)
  replace Zn := hid (Zn.out.now b)
  replace Zf := hid (Zf.out.now b)
  replace Zh := hid (Zh.out.now b)
  replace Pa := hid (Pa.out.step b)
  replace Pb := hid (Pb.out.step b)
  replace Ps := hid (Ps.out.step b)
  replace Pt := hid (Pt.out.step b)
  replace Pr := hid (Pr.out.step b)
  replace Pn := hid (Pn.out.step b)
  replace Pf := hid (Pf.out.step b)
  replace Ph := hid (Ph.out.step b)
  replace G := hid (below_step G.out b)
  have lz17 := (show Below _ _ _ from b).size
  clear b 
  have bB : (cmpI B 0 == 0) = false := by rw [beq_eq_false_iff_ne]; exact fun e => HB.out (cmpI_zero e)
  have bT : (cmpI T 0 == 0) = false := by rw [beq_eq_false_iff_ne]; exact fun e => HT.out (cmpI_zero e)
  have HSB : Hid (∀ w' v, Zi w' v B 1048576 → _) := fun (w' : World) (v : Value) (h : Zi w' v B 1048576) => rsign_z h (by decide)
  have HST : Hid (∀ w' v, Zi w' v T 1048576 → _) := fun (w' : World) (v : Value) (h : Zi w' v T 1048576) => rsign_z h (by decide)
  generalize cmpI B 0 = SB at *
  generalize cmpI T 0 = ST at *
  have cb0 := Pb.out.c0
  have cb1 := Pb.out.c1
  go_wp2_with fail
  clear cb0 cb1
  refine (HSB.out _ _ Zb.out).mono ?_
  rintro e w18 ⟨rfl, b⟩
  replace Za := hid (Za.out.now b)
  replace Zb := hid (Zb.out.now b)
  replace Zs := hid (Zs.out.now b)
  replace Zt := hid (Zt.out.now b)
  replace Zr := hid (Zr.out.now b)
  replace Zn := hid (Zn.out.now b)
  replace Zf := hid (Zf.out.now b)
  replace Zh := hid (Zh.out.now b)
  replace Pa := hid (Pa.out.step b)
  replace Pb := hid (Pb.out.step b)
  replace Ps := hid (Ps.out.step b)
  replace Pt := hid (Pt.out.step b)
  replace Pr := hid (Pr.out.step b)
  replace Pn := hid (Pn.out.step b)
  replace Pf := hid (Pf.out.step b)
  replace Ph := hid (Ph.out.step b)
  replace G := hid (below_step G.out b)
  have lz19 := (show Below _ _ _ from b).size
  clear b 
  have ct0 := Pt.out.c0
  have ct1 := Pt.out.c1
  go_wp2_with fail
  clear ct0 ct1
  refine (HST.out _ _ Zt.out).mono ?_
  rintro e w20 ⟨rfl, b⟩
  replace Za := hid (Za.out.now b)
  replace Zb := hid (Zb.out.now b)
  replace Zs := hid (Zs.out.now b)
  replace Zt := hid (Zt.out.now b)
  replace Zr := hid (Zr.out.now b)
  replace Zn := hid (Zn.out.now b)
  replace Zf := hid (Zf.out.now b)
  replace Zh := hid (Zh.out.now b)
  replace Pa := hid (Pa.out.step b)
  replace Pb := hid (Pb.out.step b)
  replace Ps := hid (Ps.out.step b)
  replace Pt := hid (Pt.out.step b)
  replace Pr := hid (Pr.out.step b)
  replace Pn := hid (Pn.out.step b)
  replace Pf := hid (Pf.out.step b)
  replace Ph := hid (Ph.out.step b)
  replace G := hid (below_step G.out b)
  have lz21 := (show Below _ _ _ from b).size
  clear b 
  clear HSB HST
  have cb0 := Pb.out.c0
  have cb1 := Pb.out.c1
  have ct0 := Pt.out.c0
  have ct1 := Pt.out.c1
  go_wp2_with fail
  clear cb0 cb1 ct0 ct1
  refine (gcd_z Zb.out Zt.out (by decide)).mono ?_
  rintro e w22 ⟨r0, rfl, m0, b⟩
  obtain ⟨ng, xg, adg, qg, rfl, -, -, -, -, -⟩ := id m0
  replace Za := hid (Za.out.now b)
  replace Zb := hid (Zb.out.now b)
  replace Zs := hid (Zs.out.now b)
  replace Zt := hid (Zt.out.now b)
  replace Zr := hid (Zr.out.now b)
  replace Zn := hid (Zn.out.now b)
  replace Zf := hid (Zf.out.now b)
  replace Zh := hid (Zh.out.now b)
  replace Pa := hid (Pa.out.step b)
  replace Pb := hid (Pb.out.step b)
  replace Ps := hid (Ps.out.step b)
  replace Pt := hid (Pt.out.step b)
  replace Pr := hid (Pr.out.step b)
  replace Pn := hid (Pn.out.step b)
  replace Pf := hid (Pf.out.step b)
  replace Ph := hid (Ph.out.step b)
  replace G := hid (below_step G.out b)
  have lz23 := (show Below _ _ _ from b).size
  have Zg := hid m0
  clear b m0
  obtain ⟨V24, hW⟩ : ∃ V24, w22.alloc (duo (.bool ng) (.slice adg xg.length qg)) = V24 := ⟨_, rfl⟩
  obtain ⟨kW, sz24⟩ := alloc1 w22 (duo (.bool ng) (.slice adg xg.length qg))
  rw [hW] at kW sz24
  replace Za := hid (Za.out.now kW)
  replace Zb := hid (Zb.out.now kW)
  replace Zs := hid (Zs.out.now kW)
  replace Zt := hid (Zt.out.now kW)
  replace Zr := hid (Zr.out.now kW)
  replace Zn := hid (Zn.out.now kW)
  replace Zf := hid (Zf.out.now kW)
  replace Zh := hid (Zh.out.now kW)
  replace Zg := hid (Zg.out.now kW)
  replace Pa := hid (Pa.out.step kW)
  replace Pb := hid (Pb.out.step kW)
  replace Ps := hid (Ps.out.step kW)
  replace Pt := hid (Pt.out.step kW)
  replace Pr := hid (Pr.out.step kW)
  replace Pn := hid (Pn.out.step kW)
  replace Pf := hid (Pf.out.step kW)
  replace Ph := hid (Ph.out.step kW)
  replace G := hid (below_step G.out kW)
  have lz25 := (show Below _ _ _ from kW).size
  have Pg : Hid (Duo V24 (w22.heap.size) (.bool ng) (.slice adg xg.length qg)) := by unfold Hid; rw [← hW]; exact duo_at (by simp)
  clear kW
  have cs0 := Ps.out.c0
  have cs1 := Ps.out.c1
  have ca0 := Pa.out.c0
  have ca1 := Pa.out.c1
  rw [← hW] at cs0 cs1 ca0 ca1
  have EW := hid hW
  clear hW
  go_wp2_with fail
  rw [EW.out]
  clear EW
  clear cs0 cs1 ca0 ca1
  refine (rsub_z Zs.out Za.out (by decide) (by decide)).mono ?_
  rintro e w26 ⟨r0, rfl, m0, b⟩
  obtain ⟨nd, xd, add, qd, rfl, -, -, -, -, -⟩ := id m0
  replace Za := hid (Za.out.now b)
  replace Zb := hid (Zb.out.now b)
  replace Zs := hid (Zs.out.now b)
  replace Zt := hid (Zt.out.now b)
  replace Zr := hid (Zr.out.now b)
  replace Zn := hid (Zn.out.now b)
  replace Zf := hid (Zf.out.now b)
  replace Zh := hid (Zh.out.now b)
  replace Zg := hid (Zg.out.now b)
  replace Pa := hid (Pa.out.step b)
  replace Pb := hid (Pb.out.step b)
  replace Ps := hid (Ps.out.step b)
  replace Pt := hid (Pt.out.step b)
  replace Pr := hid (Pr.out.step b)
  replace Pn := hid (Pn.out.step b)
  replace Pf := hid (Pf.out.step b)
  replace Ph := hid (Ph.out.step b)
  replace Pg := hid (Pg.out.step b)
  replace G := hid (below_step G.out b)
  have lz27 := (show Below _ _ _ from b).size
  have Zd := hid m0
  clear b m0
  obtain ⟨V28, hW⟩ : ∃ V28, w26.alloc (duo (.bool nd) (.slice add xd.length qd)) = V28 := ⟨_, rfl⟩
  obtain ⟨kW, sz28⟩ := alloc1 w26 (duo (.bool nd) (.slice add xd.length qd))
  rw [hW] at kW sz28
  replace Za := hid (Za.out.now kW)
  replace Zb := hid (Zb.out.now kW)
  replace Zs := hid (Zs.out.now kW)
  replace Zt := hid (Zt.out.now kW)
  replace Zr := hid (Zr.out.now kW)
  replace Zn := hid (Zn.out.now kW)
  replace Zf := hid (Zf.out.now kW)
  replace Zh := hid (Zh.out.now kW)
  replace Zg := hid (Zg.out.now kW)
  replace Zd := hid (Zd.out.now kW)
  replace Pa := hid (Pa.out.step kW)
  replace Pb := hid (Pb.out.step kW)
  replace Ps := hid (Ps.out.step kW)
  replace Pt := hid (Pt.out.step kW)
  replace Pr := hid (Pr.out.step kW)
  replace Pn := hid (Pn.out.step kW)
  replace Pf := hid (Pf.out.step kW)
  replace Ph := hid (Ph.out.step kW)
  replace Pg := hid (Pg.out.step kW)
  replace G := hid (below_step G.out kW)
  have lz29 := (show Below _ _ _ from kW).size
  have Pd : Hid (Duo V28 (w26.heap.size) (.bool nd) (.slice add xd.length qd)) := by unfold Hid; rw [← hW]; exact duo_at (by simp)
  clear kW
  have cg0 := Pg.out.c0
  have cg1 := Pg.out.c1
  have cd0 := Pd.out.c0
  have cd1 := Pd.out.c1
  rw [← hW] at cg0 cg1 cd0 cd1
  have EW := hid hW
  clear hW
  go_wp2_with fail
  rw [EW.out]
  clear EW
  clear cg0 cg1 cd0 cd1
  refine (divides6 Zg.out.zi Zd.out.zi (by decide) (by decide) HG.out).mono ?_
  rintro e w30 ⟨rfl, b⟩
  replace Za := hid (Za.out.now b)
  replace Zb := hid (Zb.out.now b)
  replace Zs := hid (Zs.out.now b)
  replace Zt := hid (Zt.out.now b)
  replace Zr := hid (Zr.out.now b)
  replace Zn := hid (Zn.out.now b)
  replace Zf := hid (Zf.out.now b)
  replace Zh := hid (Zh.out.now b)
  replace Zg := hid (Zg.out.now b)
  replace Zd := hid (Zd.out.now b)
  replace Pa := hid (Pa.out.step b)
  replace Pb := hid (Pb.out.step b)
  replace Ps := hid (Ps.out.step b)
  replace Pt := hid (Pt.out.step b)
  replace Pr := hid (Pr.out.step b)
  replace Pn := hid (Pn.out.step b)
  replace Pf := hid (Pf.out.step b)
  replace Ph := hid (Ph.out.step b)
  replace Pg := hid (Pg.out.step b)
  replace Pd := hid (Pd.out.step b)
  replace G := hid (below_step G.out b)
  have lz31 := (show Below _ _ _ from b).size
  clear b 
  have HW : Hid (0 ≤ zr ∧ zr < (zn.natAbs : Int)) := by
    have h1 := HV.out.lo
    have h2 := HV.out.hi
    unfold Hid
    omega
  have q0 : ((0 : Int) != 0) = false := rfl
  go_wp2_with fail
  refine wp_region_X (fun w' => w'.cell? ⟨w5.heap.size, 0, none⟩ = some (.bool nr) ∧ w'.cell? ⟨w5.heap.size, 1, none⟩ = some (.slice adr xr.length qr) ∧ w'.cell? ⟨w5.heap.size + 1, 0, none⟩ = some (.bool nn) ∧ w'.cell? ⟨w5.heap.size + 1, 1, none⟩ = some (.slice adn xn.length qn) ∧ w'.cell? ⟨w1.heap.size + 1, 0, none⟩ = some (.bool nb) ∧ w'.cell? ⟨w1.heap.size + 1, 1, none⟩ = some (.slice adb xb.length cb) ∧ w'.cell? ⟨w1.heap.size + 1 + 1 + 1, 0, none⟩ = some (.bool nt) ∧ w'.cell? ⟨w1.heap.size + 1 + 1 + 1, 1, none⟩ = some (.slice adt xt.length ct)) [] (by kernel_rfl) ?_
  obtain ⟨D32, hD⟩ : ∃ D32, w30.drew = D32 := ⟨_, rfl⟩
  have b : Below w30.heap.size w30 D32 := by rw [← hD]; exact (Below.refl _ _).drew
  rw [hD]
  clear hD
  replace Za := hid (Za.out.now b)
  replace Zb := hid (Zb.out.now b)
  replace Zs := hid (Zs.out.now b)
  replace Zt := hid (Zt.out.now b)
  replace Zr := hid (Zr.out.now b)
  replace Zn := hid (Zn.out.now b)
  replace Zf := hid (Zf.out.now b)
  replace Zh := hid (Zh.out.now b)
  replace Zg := hid (Zg.out.now b)
  replace Zd := hid (Zd.out.now b)
  replace Pa := hid (Pa.out.step b)
  replace Pb := hid (Pb.out.step b)
  replace Ps := hid (Ps.out.step b)
  replace Pt := hid (Pt.out.step b)
  replace Pr := hid (Pr.out.step b)
  replace Pn := hid (Pn.out.step b)
  replace Pf := hid (Pf.out.step b)
  replace Ph := hid (Ph.out.step b)
  replace Pg := hid (Pg.out.step b)
  replace Pd := hid (Pd.out.step b)
  replace G := hid (below_step G.out b)
  have lz33 := (show Below _ _ _ from b).size
  clear b
  refine wpAnyX_pure (i := 0) (oi := { dst := some 102, op := Op.move (Operand.tmp 9), type := 34, pos := "plain.go:204", after := #[], guard := none }) (v := (.int .i64 0)) rfl (by kernel_rfl) (fun _ _ _ h => h) (Or.inl ⟨by rfl, ?_⟩)  ?_
  · intro w hSw
    (try dsimp only at hSw)
    go_simp
  simp only [Act.put, List.setIfInBounds_toArray, List.set_cons_zero, List.set_cons_succ]
  refine wpAnyX_pure (i := 1) (oi := { dst := some 103, op := Op.binOp BinOp.neq 34 (Operand.tmp 102) (Operand.const (Value.int IntKind.i64 0)) 34, type := 4, pos := "plain.go:204", after := #[{ on := 0, ground := Ground.data }], guard := none }) (v := (.bool false)) rfl (by kernel_rfl) (fun _ _ _ h => h) (Or.inl ⟨by rfl, ?_⟩)  ?_
  · intro w hSw
    (try dsimp only at hSw)
    go_simp
  simp only [Act.put, List.setIfInBounds_toArray, List.set_cons_zero, List.set_cons_succ]
  refine wpAnyX_pure (i := 2) (oi := { dst := some 104, op := Op.move (Operand.tmp 103), type := 4, pos := "plain.go:204", after := #[{ on := 1, ground := Ground.data }], guard := none }) (v := (.bool false)) rfl (by kernel_rfl) (fun _ _ _ h => h) (Or.inl ⟨by rfl, ?_⟩)  ?_
  · intro w hSw
    (try dsimp only at hSw)
    go_simp
  simp only [Act.put, List.setIfInBounds_toArray, List.set_cons_zero, List.set_cons_succ]
  refine wpAnyX_take (i := 3) (oi := { dst := some 105, op := Op.load 24 (Operand.tmp 7), type := 24, pos := "plain.go:204", after := #[{ on := 2, ground := Ground.guard }], guard := some (2, false) }) (v := (.agg #[(.bool nr), (.slice adr xr.length qr)])) rfl (by kernel_rfl) (fun _ _ _ h => h) (Or.inl ⟨by rfl, ?_⟩) ⟨Pr.out.c0, Pr.out.c1, Pn.out.c0, Pn.out.c1, Pb.out.c0, Pb.out.c1, Pt.out.c0, Pt.out.c1⟩ ?_
  · intro w hSw
    (try dsimp only at hSw)
    go_simp
  simp only [Act.put, List.setIfInBounds_toArray, List.set_cons_zero, List.set_cons_succ]
  refine wpAnyX_one (i := 4) (o := { dst := some 106, op := Op.call { callee := Callee.value (Operand.func 13), args := #[Operand.tmp 105], argTypes := #[24] }, type := 4, pos := "plain.go:204", after := #[{ on := 3, ground := Ground.data }, { on := 2, ground := Ground.chain }, { on := 2, ground := Ground.guard }], guard := some (2, false) }) (by kernel_rfl) rfl (fun K hK => ?_)
  go_simp
  go_at_call 13
  refine (least6 Zr.out.zc).mono ?_
  rintro e w34 ⟨rfl, b⟩
  replace Za := hid (Za.out.now b)
  replace Zb := hid (Zb.out.now b)
  replace Zs := hid (Zs.out.now b)
  replace Zt := hid (Zt.out.now b)
  replace Zr := hid (Zr.out.now b)
  replace Zn := hid (Zn.out.now b)
  replace Zf := hid (Zf.out.now b)
  replace Zh := hid (Zh.out.now b)
  replace Zg := hid (Zg.out.now b)
  replace Zd := hid (Zd.out.now b)
  replace Pa := hid (Pa.out.step b)
  replace Pb := hid (Pb.out.step b)
  replace Ps := hid (Ps.out.step b)
  replace Pt := hid (Pt.out.step b)
  replace Pr := hid (Pr.out.step b)
  replace Pn := hid (Pn.out.step b)
  replace Pf := hid (Pf.out.step b)
  replace Ph := hid (Ph.out.step b)
  replace Pg := hid (Pg.out.step b)
  replace Pd := hid (Pd.out.step b)
  replace G := hid (below_step G.out b)
  have lz35 := (show Below _ _ _ from b).size
  clear b 
  refine hK.out _ _ (fun _ _ => ⟨Pr.out.c0, Pr.out.c1, Pn.out.c0, Pn.out.c1, Pb.out.c0, Pb.out.c1, Pt.out.c0, Pt.out.c1⟩) ?_
  clear hK
  refine wpAnyX_pure (i := 5) (oi := { dst := some 107, op := Op.unOp UnOp.not 4 (Operand.tmp 106), type := 4, pos := "plain.go:204", after := #[{ on := 4, ground := Ground.data }, { on := 2, ground := Ground.guard }], guard := some (2, false) }) (v := (.bool false)) rfl (by kernel_rfl) (fun _ _ _ h => h) (Or.inl ⟨by rfl, ?_⟩)  ?_
  · intro w hSw
    (try dsimp only at hSw)
    go_simp
  simp only [Act.put, List.setIfInBounds_toArray, List.set_cons_zero, List.set_cons_succ]
  refine wpAnyX_pure (i := 6) (oi := { dst := some 108, op := Op.pick (Operand.tmp 104) (Operand.const (Value.bool true)) (Operand.tmp 107), type := 4, pos := "plain.go:204", after := #[{ on := 2, ground := Ground.data }, { on := 5, ground := Ground.data }], guard := none }) (v := (.bool false)) rfl (by kernel_rfl) (fun _ _ _ h => h) (Or.inl ⟨by rfl, ?_⟩)  ?_
  · intro w hSw
    (try dsimp only at hSw)
    go_simp
  simp only [Act.put, List.setIfInBounds_toArray, List.set_cons_zero, List.set_cons_succ]
  refine wpAnyX_pure (i := 7) (oi := { dst := some 109, op := Op.move (Operand.tmp 108), type := 4, pos := "plain.go:204", after := #[{ on := 6, ground := Ground.data }, { on := 4, ground := Ground.chain }], guard := none }) (v := (.bool false)) rfl (by kernel_rfl) (fun _ _ _ h => h) (Or.inl ⟨by rfl, ?_⟩)  ?_
  · intro w hSw
    (try dsimp only at hSw)
    go_simp
  simp only [Act.put, List.setIfInBounds_toArray, List.set_cons_zero, List.set_cons_succ]
  refine wpAnyX_take (i := 8) (oi := { dst := some 110, op := Op.load 24 (Operand.tmp 8), type := 24, pos := "plain.go:204", after := #[{ on := 7, ground := Ground.guard }], guard := some (7, false) }) (v := (.agg #[(.bool nn), (.slice adn xn.length qn)])) rfl (by kernel_rfl) (fun _ _ _ h => h) (Or.inl ⟨by rfl, ?_⟩) ⟨Pr.out.c0, Pr.out.c1, Pn.out.c0, Pn.out.c1, Pb.out.c0, Pb.out.c1, Pt.out.c0, Pt.out.c1⟩ ?_
  · intro w hSw
    (try dsimp only at hSw)
    go_simp
  simp only [Act.put, List.setIfInBounds_toArray, List.set_cons_zero, List.set_cons_succ]
  refine wpAnyX_one (i := 9) (o := { dst := some 111, op := Op.call { callee := Callee.value (Operand.func 13), args := #[Operand.tmp 110], argTypes := #[24] }, type := 4, pos := "plain.go:204", after := #[{ on := 8, ground := Ground.data }, { on := 7, ground := Ground.chain }, { on := 7, ground := Ground.guard }], guard := some (7, false) }) (by kernel_rfl) rfl (fun K hK => ?_)
  go_simp
  go_at_call 13
  refine (least6 Zn.out.zc).mono ?_
  rintro e w36 ⟨rfl, b⟩
  replace Za := hid (Za.out.now b)
  replace Zb := hid (Zb.out.now b)
  replace Zs := hid (Zs.out.now b)
  replace Zt := hid (Zt.out.now b)
  replace Zr := hid (Zr.out.now b)
  replace Zn := hid (Zn.out.now b)
  replace Zf := hid (Zf.out.now b)
  replace Zh := hid (Zh.out.now b)
  replace Zg := hid (Zg.out.now b)
  replace Zd := hid (Zd.out.now b)
  replace Pa := hid (Pa.out.step b)
  replace Pb := hid (Pb.out.step b)
  replace Ps := hid (Ps.out.step b)
  replace Pt := hid (Pt.out.step b)
  replace Pr := hid (Pr.out.step b)
  replace Pn := hid (Pn.out.step b)
  replace Pf := hid (Pf.out.step b)
  replace Ph := hid (Ph.out.step b)
  replace Pg := hid (Pg.out.step b)
  replace Pd := hid (Pd.out.step b)
  replace G := hid (below_step G.out b)
  have lz37 := (show Below _ _ _ from b).size
  clear b 
  refine hK.out _ _ (fun _ _ => ⟨Pr.out.c0, Pr.out.c1, Pn.out.c0, Pn.out.c1, Pb.out.c0, Pb.out.c1, Pt.out.c0, Pt.out.c1⟩) ?_
  clear hK
  refine wpAnyX_pure (i := 10) (oi := { dst := some 112, op := Op.unOp UnOp.not 4 (Operand.tmp 111), type := 4, pos := "plain.go:204", after := #[{ on := 9, ground := Ground.data }, { on := 7, ground := Ground.guard }], guard := some (7, false) }) (v := (.bool false)) rfl (by kernel_rfl) (fun _ _ _ h => h) (Or.inl ⟨by rfl, ?_⟩)  ?_
  · intro w hSw
    (try dsimp only at hSw)
    go_simp
  simp only [Act.put, List.setIfInBounds_toArray, List.set_cons_zero, List.set_cons_succ]
  refine wpAnyX_pure (i := 11) (oi := { dst := some 113, op := Op.pick (Operand.tmp 109) (Operand.const (Value.bool true)) (Operand.tmp 112), type := 4, pos := "plain.go:204", after := #[{ on := 7, ground := Ground.data }, { on := 10, ground := Ground.data }], guard := none }) (v := (.bool false)) rfl (by kernel_rfl) (fun _ _ _ h => h) (Or.inl ⟨by rfl, ?_⟩)  ?_
  · intro w hSw
    (try dsimp only at hSw)
    go_simp
  simp only [Act.put, List.setIfInBounds_toArray, List.set_cons_zero, List.set_cons_succ]
  refine wpAnyX_pure (i := 12) (oi := { dst := some 114, op := Op.move (Operand.tmp 113), type := 4, pos := "plain.go:204", after := #[{ on := 11, ground := Ground.data }, { on := 9, ground := Ground.chain }], guard := none }) (v := (.bool false)) rfl (by kernel_rfl) (fun _ _ _ h => h) (Or.inl ⟨by rfl, ?_⟩)  ?_
  · intro w hSw
    (try dsimp only at hSw)
    go_simp
  simp only [Act.put, List.setIfInBounds_toArray, List.set_cons_zero, List.set_cons_succ]
  refine wpAnyX_take (i := 13) (oi := { dst := some 115, op := Op.load 24 (Operand.tmp 7), type := 24, pos := "plain.go:204", after := #[{ on := 12, ground := Ground.guard }], guard := some (12, false) }) (v := (.agg #[(.bool nr), (.slice adr xr.length qr)])) rfl (by kernel_rfl) (fun _ _ _ h => h) (Or.inl ⟨by rfl, ?_⟩) ⟨Pr.out.c0, Pr.out.c1, Pn.out.c0, Pn.out.c1, Pb.out.c0, Pb.out.c1, Pt.out.c0, Pt.out.c1⟩ ?_
  · intro w hSw
    (try dsimp only at hSw)
    go_simp
  simp only [Act.put, List.setIfInBounds_toArray, List.set_cons_zero, List.set_cons_succ]
  refine wpAnyX_take (i := 14) (oi := { dst := some 116, op := Op.load 24 (Operand.tmp 8), type := 24, pos := "plain.go:204", after := #[{ on := 12, ground := Ground.guard }], guard := some (12, false) }) (v := (.agg #[(.bool nn), (.slice adn xn.length qn)])) rfl (by kernel_rfl) (fun _ _ _ h => h) (Or.inl ⟨by rfl, ?_⟩) ⟨Pr.out.c0, Pr.out.c1, Pn.out.c0, Pn.out.c1, Pb.out.c0, Pb.out.c1, Pt.out.c0, Pt.out.c1⟩ ?_
  · intro w hSw
    (try dsimp only at hSw)
    go_simp
  simp only [Act.put, List.setIfInBounds_toArray, List.set_cons_zero, List.set_cons_succ]
  refine wpAnyX_one (i := 15) (o := { dst := some 117, op := Op.call { callee := Callee.value (Operand.func 23), args := #[Operand.tmp 115, Operand.tmp 116], argTypes := #[24, 24] }, type := 4, pos := "plain.go:204", after := #[{ on := 13, ground := Ground.data }, { on := 14, ground := Ground.data }, { on := 12, ground := Ground.chain }, { on := 12, ground := Ground.guard }], guard := some (12, false) }) (by kernel_rfl) rfl (fun K hK => ?_)
  go_simp
  go_at_call 23
  refine (within6 Zr.out.zi Zn.out.zi (by decide) HW.out).mono ?_
  rintro e w38 ⟨rfl, b⟩
  replace Za := hid (Za.out.now b)
  replace Zb := hid (Zb.out.now b)
  replace Zs := hid (Zs.out.now b)
  replace Zt := hid (Zt.out.now b)
  replace Zr := hid (Zr.out.now b)
  replace Zn := hid (Zn.out.now b)
  replace Zf := hid (Zf.out.now b)
  replace Zh := hid (Zh.out.now b)
  replace Zg := hid (Zg.out.now b)
  replace Zd := hid (Zd.out.now b)
  replace Pa := hid (Pa.out.step b)
  replace Pb := hid (Pb.out.step b)
  replace Ps := hid (Ps.out.step b)
  replace Pt := hid (Pt.out.step b)
  replace Pr := hid (Pr.out.step b)
  replace Pn := hid (Pn.out.step b)
  replace Pf := hid (Pf.out.step b)
  replace Ph := hid (Ph.out.step b)
  replace Pg := hid (Pg.out.step b)
  replace Pd := hid (Pd.out.step b)
  replace G := hid (below_step G.out b)
  have lz39 := (show Below _ _ _ from b).size
  clear b 
  refine hK.out _ _ (fun _ _ => ⟨Pr.out.c0, Pr.out.c1, Pn.out.c0, Pn.out.c1, Pb.out.c0, Pb.out.c1, Pt.out.c0, Pt.out.c1⟩) ?_
  clear hK
  refine wpAnyX_pure (i := 16) (oi := { dst := some 118, op := Op.unOp UnOp.not 4 (Operand.tmp 117), type := 4, pos := "plain.go:204", after := #[{ on := 15, ground := Ground.data }, { on := 12, ground := Ground.guard }], guard := some (12, false) }) (v := (.bool false)) rfl (by kernel_rfl) (fun _ _ _ h => h) (Or.inl ⟨by rfl, ?_⟩)  ?_
  · intro w hSw
    (try dsimp only at hSw)
    go_simp
  simp only [Act.put, List.setIfInBounds_toArray, List.set_cons_zero, List.set_cons_succ]
  refine wpAnyX_pure (i := 17) (oi := { dst := some 119, op := Op.pick (Operand.tmp 114) (Operand.const (Value.bool true)) (Operand.tmp 118), type := 4, pos := "plain.go:204", after := #[{ on := 12, ground := Ground.data }, { on := 16, ground := Ground.data }], guard := none }) (v := (.bool false)) rfl (by kernel_rfl) (fun _ _ _ h => h) (Or.inl ⟨by rfl, ?_⟩)  ?_
  · intro w hSw
    (try dsimp only at hSw)
    go_simp
  simp only [Act.put, List.setIfInBounds_toArray, List.set_cons_zero, List.set_cons_succ]
  refine wpAnyX_pure (i := 18) (oi := { dst := some 120, op := Op.move (Operand.tmp 119), type := 4, pos := "plain.go:204", after := #[{ on := 17, ground := Ground.data }, { on := 15, ground := Ground.chain }], guard := none }) (v := (.bool false)) rfl (by kernel_rfl) (fun _ _ _ h => h) (Or.inl ⟨by rfl, ?_⟩)  ?_
  · intro w hSw
    (try dsimp only at hSw)
    go_simp
  simp only [Act.put, List.setIfInBounds_toArray, List.set_cons_zero, List.set_cons_succ]
  refine wpAnyX_take (i := 19) (oi := { dst := some 121, op := Op.load 24 (Operand.tmp 8), type := 24, pos := "plain.go:204", after := #[{ on := 18, ground := Ground.guard }], guard := some (18, false) }) (v := (.agg #[(.bool nn), (.slice adn xn.length qn)])) rfl (by kernel_rfl) (fun _ _ _ h => h) (Or.inl ⟨by rfl, ?_⟩) ⟨Pr.out.c0, Pr.out.c1, Pn.out.c0, Pn.out.c1, Pb.out.c0, Pb.out.c1, Pt.out.c0, Pt.out.c1⟩ ?_
  · intro w hSw
    (try dsimp only at hSw)
    go_simp
  simp only [Act.put, List.setIfInBounds_toArray, List.set_cons_zero, List.set_cons_succ]
  refine wpAnyX_take (i := 20) (oi := { dst := some 122, op := Op.load 24 (Operand.tmp 4), type := 24, pos := "plain.go:204", after := #[{ on := 18, ground := Ground.guard }], guard := some (18, false) }) (v := (.agg #[(.bool nb), (.slice adb xb.length cb)])) rfl (by kernel_rfl) (fun _ _ _ h => h) (Or.inl ⟨by rfl, ?_⟩) ⟨Pr.out.c0, Pr.out.c1, Pn.out.c0, Pn.out.c1, Pb.out.c0, Pb.out.c1, Pt.out.c0, Pt.out.c1⟩ ?_
  · intro w hSw
    (try dsimp only at hSw)
    go_simp
  simp only [Act.put, List.setIfInBounds_toArray, List.set_cons_zero, List.set_cons_succ]
  refine wpAnyX_take (i := 21) (oi := { dst := some 123, op := Op.load 24 (Operand.tmp 6), type := 24, pos := "plain.go:204", after := #[{ on := 18, ground := Ground.guard }], guard := some (18, false) }) (v := (.agg #[(.bool nt), (.slice adt xt.length ct)])) rfl (by kernel_rfl) (fun _ _ _ h => h) (Or.inl ⟨by rfl, ?_⟩) ⟨Pr.out.c0, Pr.out.c1, Pn.out.c0, Pn.out.c1, Pb.out.c0, Pb.out.c1, Pt.out.c0, Pt.out.c1⟩ ?_
  · intro w hSw
    (try dsimp only at hSw)
    go_simp
  simp only [Act.put, List.setIfInBounds_toArray, List.set_cons_zero, List.set_cons_succ]
  refine wpAnyX_one (i := 22) (o := { dst := some 124, op := Op.call { callee := Callee.value (Operand.func 12), args := #[Operand.tmp 122, Operand.tmp 123], argTypes := #[24, 24] }, type := 24, pos := "plain.go:204", after := #[{ on := 20, ground := Ground.data }, { on := 21, ground := Ground.data }, { on := 18, ground := Ground.chain }, { on := 18, ground := Ground.guard }], guard := some (18, false) }) (by kernel_rfl) rfl (fun K hK => ?_)
  go_simp
  go_at_call 12
  refine (lcm_z Zb.out Zt.out (by decide)).mono ?_
  rintro e w40 ⟨r0, rfl, m0, b⟩
  obtain ⟨no, xo, ado, qo, rfl, -, -, -, -, -⟩ := id m0
  replace Za := hid (Za.out.now b)
  replace Zb := hid (Zb.out.now b)
  replace Zs := hid (Zs.out.now b)
  replace Zt := hid (Zt.out.now b)
  replace Zr := hid (Zr.out.now b)
  replace Zn := hid (Zn.out.now b)
  replace Zf := hid (Zf.out.now b)
  replace Zh := hid (Zh.out.now b)
  replace Zg := hid (Zg.out.now b)
  replace Zd := hid (Zd.out.now b)
  replace Pa := hid (Pa.out.step b)
  replace Pb := hid (Pb.out.step b)
  replace Ps := hid (Ps.out.step b)
  replace Pt := hid (Pt.out.step b)
  replace Pr := hid (Pr.out.step b)
  replace Pn := hid (Pn.out.step b)
  replace Pf := hid (Pf.out.step b)
  replace Ph := hid (Ph.out.step b)
  replace Pg := hid (Pg.out.step b)
  replace Pd := hid (Pd.out.step b)
  replace G := hid (below_step G.out b)
  have lz41 := (show Below _ _ _ from b).size
  have Zo := hid m0
  clear b m0
  refine hK.out _ _ (fun _ _ => ⟨Pr.out.c0, Pr.out.c1, Pn.out.c0, Pn.out.c1, Pb.out.c0, Pb.out.c1, Pt.out.c0, Pt.out.c1⟩) ?_
  clear hK
  refine wpAnyX_one (i := 23) (o := { dst := some 125, op := Op.call { callee := Callee.value (Operand.func 14), args := #[Operand.tmp 121, Operand.tmp 124], argTypes := #[24, 24] }, type := 4, pos := "plain.go:204", after := #[{ on := 19, ground := Ground.data }, { on := 22, ground := Ground.data }, { on := 22, ground := Ground.chain }, { on := 18, ground := Ground.guard }], guard := some (18, false) }) (by kernel_rfl) rfl (fun K hK => ?_)
  go_simp
  go_at_call 14
  refine (alike6_yes Zn.out.zc Zo.out.zc HV.out.em).mono ?_
  rintro e w42 ⟨rfl, b⟩
  replace Za := hid (Za.out.now b)
  replace Zb := hid (Zb.out.now b)
  replace Zs := hid (Zs.out.now b)
  replace Zt := hid (Zt.out.now b)
  replace Zr := hid (Zr.out.now b)
  replace Zn := hid (Zn.out.now b)
  replace Zf := hid (Zf.out.now b)
  replace Zh := hid (Zh.out.now b)
  replace Zg := hid (Zg.out.now b)
  replace Zd := hid (Zd.out.now b)
  replace Zo := hid (Zo.out.now b)
  replace Pa := hid (Pa.out.step b)
  replace Pb := hid (Pb.out.step b)
  replace Ps := hid (Ps.out.step b)
  replace Pt := hid (Pt.out.step b)
  replace Pr := hid (Pr.out.step b)
  replace Pn := hid (Pn.out.step b)
  replace Pf := hid (Pf.out.step b)
  replace Ph := hid (Ph.out.step b)
  replace Pg := hid (Pg.out.step b)
  replace Pd := hid (Pd.out.step b)
  replace G := hid (below_step G.out b)
  have lz43 := (show Below _ _ _ from b).size
  clear b 
  refine hK.out _ _ (fun _ _ => ⟨Pr.out.c0, Pr.out.c1, Pn.out.c0, Pn.out.c1, Pb.out.c0, Pb.out.c1, Pt.out.c0, Pt.out.c1⟩) ?_
  clear hK
  refine wpAnyX_pure (i := 24) (oi := { dst := some 126, op := Op.unOp UnOp.not 4 (Operand.tmp 125), type := 4, pos := "plain.go:204", after := #[{ on := 23, ground := Ground.data }, { on := 18, ground := Ground.guard }], guard := some (18, false) }) (v := (.bool false)) rfl (by kernel_rfl) (fun _ _ _ h => h) (Or.inl ⟨by rfl, ?_⟩)  ?_
  · intro w hSw
    (try dsimp only at hSw)
    go_simp
  simp only [Act.put, List.setIfInBounds_toArray, List.set_cons_zero, List.set_cons_succ]
  refine wpAnyX_pure (i := 25) (oi := { dst := some 127, op := Op.pick (Operand.tmp 120) (Operand.const (Value.bool true)) (Operand.tmp 126), type := 4, pos := "plain.go:204", after := #[{ on := 18, ground := Ground.data }, { on := 24, ground := Ground.data }], guard := none }) (v := (.bool false)) rfl (by kernel_rfl) (fun _ _ _ h => h) (Or.inl ⟨by rfl, ?_⟩)  ?_
  · intro w hSw
    (try dsimp only at hSw)
    go_simp
  simp only [Act.put, List.setIfInBounds_toArray, List.set_cons_zero, List.set_cons_succ]
  refine wpAnyX_done (by kernel_rfl) ?_ _
  clear Zo
  go_wp2_with fail
  refine wp_region_X (fun w' => w'.cell? ⟨w1.heap.size + 1, 0, none⟩ = some (.bool nb) ∧ w'.cell? ⟨w1.heap.size + 1, 1, none⟩ = some (.slice adb xb.length cb) ∧ w'.cell? ⟨w5.heap.size, 0, none⟩ = some (.bool nr) ∧ w'.cell? ⟨w5.heap.size, 1, none⟩ = some (.slice adr xr.length qr) ∧ w'.cell? ⟨w1.heap.size, 0, none⟩ = some (.bool na) ∧ w'.cell? ⟨w1.heap.size, 1, none⟩ = some (.slice ada xa.length ca) ∧ w'.cell? ⟨w1.heap.size + 1 + 1 + 1, 0, none⟩ = some (.bool nt) ∧ w'.cell? ⟨w1.heap.size + 1 + 1 + 1, 1, none⟩ = some (.slice adt xt.length ct) ∧ w'.cell? ⟨w1.heap.size + 1 + 1, 0, none⟩ = some (.bool ns) ∧ w'.cell? ⟨w1.heap.size + 1 + 1, 1, none⟩ = some (.slice ads xs.length cs)) [] (by kernel_rfl) ?_
  obtain ⟨D44, hD⟩ : ∃ D44, w42.drew = D44 := ⟨_, rfl⟩
  have b : Below w42.heap.size w42 D44 := by rw [← hD]; exact (Below.refl _ _).drew
  rw [hD]
  clear hD
  replace Za := hid (Za.out.now b)
  replace Zb := hid (Zb.out.now b)
  replace Zs := hid (Zs.out.now b)
  replace Zt := hid (Zt.out.now b)
  replace Zr := hid (Zr.out.now b)
  replace Zn := hid (Zn.out.now b)
  replace Zf := hid (Zf.out.now b)
  replace Zh := hid (Zh.out.now b)
  replace Zg := hid (Zg.out.now b)
  replace Zd := hid (Zd.out.now b)
  replace Pa := hid (Pa.out.step b)
  replace Pb := hid (Pb.out.step b)
  replace Ps := hid (Ps.out.step b)
  replace Pt := hid (Pt.out.step b)
  replace Pr := hid (Pr.out.step b)
  replace Pn := hid (Pn.out.step b)
  replace Pf := hid (Pf.out.step b)
  replace Ph := hid (Ph.out.step b)
  replace Pg := hid (Pg.out.step b)
  replace Pd := hid (Pd.out.step b)
  replace G := hid (below_step G.out b)
  have lz45 := (show Below _ _ _ from b).size
  clear b
  refine wpAnyX_take (i := 0) (oi := { dst := some 128, op := Op.load 24 (Operand.tmp 4), type := 24, pos := "plain.go:207", after := #[], guard := none }) (v := (.agg #[(.bool nb), (.slice adb xb.length cb)])) rfl (by kernel_rfl) (fun _ _ _ h => h) (Or.inl ⟨by rfl, ?_⟩) ⟨Pb.out.c0, Pb.out.c1, Pr.out.c0, Pr.out.c1, Pa.out.c0, Pa.out.c1, Pt.out.c0, Pt.out.c1, Ps.out.c0, Ps.out.c1⟩ ?_
  · intro w hSw
    (try dsimp only at hSw)
    go_simp
  simp only [Act.put, List.setIfInBounds_toArray, List.set_cons_zero, List.set_cons_succ]
  refine wpAnyX_take (i := 1) (oi := { dst := some 129, op := Op.load 24 (Operand.tmp 7), type := 24, pos := "plain.go:207", after := #[], guard := none }) (v := (.agg #[(.bool nr), (.slice adr xr.length qr)])) rfl (by kernel_rfl) (fun _ _ _ h => h) (Or.inl ⟨by rfl, ?_⟩) ⟨Pb.out.c0, Pb.out.c1, Pr.out.c0, Pr.out.c1, Pa.out.c0, Pa.out.c1, Pt.out.c0, Pt.out.c1, Ps.out.c0, Ps.out.c1⟩ ?_
  · intro w hSw
    (try dsimp only at hSw)
    go_simp
  simp only [Act.put, List.setIfInBounds_toArray, List.set_cons_zero, List.set_cons_succ]
  refine wpAnyX_take (i := 2) (oi := { dst := some 130, op := Op.load 24 (Operand.tmp 3), type := 24, pos := "plain.go:207", after := #[], guard := none }) (v := (.agg #[(.bool na), (.slice ada xa.length ca)])) rfl (by kernel_rfl) (fun _ _ _ h => h) (Or.inl ⟨by rfl, ?_⟩) ⟨Pb.out.c0, Pb.out.c1, Pr.out.c0, Pr.out.c1, Pa.out.c0, Pa.out.c1, Pt.out.c0, Pt.out.c1, Ps.out.c0, Ps.out.c1⟩ ?_
  · intro w hSw
    (try dsimp only at hSw)
    go_simp
  simp only [Act.put, List.setIfInBounds_toArray, List.set_cons_zero, List.set_cons_succ]
  refine wpAnyX_one (i := 3) (o := { dst := some 131, op := Op.call { callee := Callee.value (Operand.func 29), args := #[Operand.tmp 129, Operand.tmp 130], argTypes := #[24, 24] }, type := 24, pos := "plain.go:207", after := #[{ on := 1, ground := Ground.data }, { on := 2, ground := Ground.data }], guard := none }) (by kernel_rfl) rfl (fun K hK => ?_)
  go_simp
  go_at_call 29
  refine (rsub_z Zr.out.zi Za.out (by decide) (by decide)).mono ?_
  rintro e w46 ⟨r0, rfl, m0, b⟩
  obtain ⟨np, xp, adp, qp, rfl, -, -, -, -, -⟩ := id m0
  replace Za := hid (Za.out.now b)
  replace Zb := hid (Zb.out.now b)
  replace Zs := hid (Zs.out.now b)
  replace Zt := hid (Zt.out.now b)
  replace Zr := hid (Zr.out.now b)
  replace Zn := hid (Zn.out.now b)
  replace Zf := hid (Zf.out.now b)
  replace Zh := hid (Zh.out.now b)
  replace Zg := hid (Zg.out.now b)
  replace Zd := hid (Zd.out.now b)
  replace Pa := hid (Pa.out.step b)
  replace Pb := hid (Pb.out.step b)
  replace Ps := hid (Ps.out.step b)
  replace Pt := hid (Pt.out.step b)
  replace Pr := hid (Pr.out.step b)
  replace Pn := hid (Pn.out.step b)
  replace Pf := hid (Pf.out.step b)
  replace Ph := hid (Ph.out.step b)
  replace Pg := hid (Pg.out.step b)
  replace Pd := hid (Pd.out.step b)
  replace G := hid (below_step G.out b)
  have lz47 := (show Below _ _ _ from b).size
  have Zp := hid m0
  clear b m0
  refine hK.out _ _ (fun _ _ => ⟨Pb.out.c0, Pb.out.c1, Pr.out.c0, Pr.out.c1, Pa.out.c0, Pa.out.c1, Pt.out.c0, Pt.out.c1, Ps.out.c0, Ps.out.c1⟩) ?_
  clear hK
  refine wpAnyX_one (i := 4) (o := { dst := some 132, op := Op.call { callee := Callee.value (Operand.func 16), args := #[Operand.tmp 128, Operand.tmp 131], argTypes := #[24, 24] }, type := 4, pos := "plain.go:207", after := #[{ on := 0, ground := Ground.data }, { on := 3, ground := Ground.data }, { on := 3, ground := Ground.chain }], guard := none }) (by kernel_rfl) rfl (fun K hK => ?_)
  go_simp
  go_at_call 16
  refine (divides6 Zb.out Zp.out.zi (by decide) (by decide) HV.out.d1).mono ?_
  rintro e w48 ⟨rfl, b⟩
  replace Za := hid (Za.out.now b)
  replace Zb := hid (Zb.out.now b)
  replace Zs := hid (Zs.out.now b)
  replace Zt := hid (Zt.out.now b)
  replace Zr := hid (Zr.out.now b)
  replace Zn := hid (Zn.out.now b)
  replace Zf := hid (Zf.out.now b)
  replace Zh := hid (Zh.out.now b)
  replace Zg := hid (Zg.out.now b)
  replace Zd := hid (Zd.out.now b)
  replace Zp := hid (Zp.out.now b)
  replace Pa := hid (Pa.out.step b)
  replace Pb := hid (Pb.out.step b)
  replace Ps := hid (Ps.out.step b)
  replace Pt := hid (Pt.out.step b)
  replace Pr := hid (Pr.out.step b)
  replace Pn := hid (Pn.out.step b)
  replace Pf := hid (Pf.out.step b)
  replace Ph := hid (Ph.out.step b)
  replace Pg := hid (Pg.out.step b)
  replace Pd := hid (Pd.out.step b)
  replace G := hid (below_step G.out b)
  have lz49 := (show Below _ _ _ from b).size
  clear b 
  refine hK.out _ _ (fun _ _ => ⟨Pb.out.c0, Pb.out.c1, Pr.out.c0, Pr.out.c1, Pa.out.c0, Pa.out.c1, Pt.out.c0, Pt.out.c1, Ps.out.c0, Ps.out.c1⟩) ?_
  clear hK
  refine wpAnyX_pure (i := 5) (oi := { dst := some 133, op := Op.move (Operand.tmp 132), type := 4, pos := "plain.go:207", after := #[{ on := 4, ground := Ground.data }, { on := 4, ground := Ground.chain }], guard := none }) (v := (.bool true)) rfl (by kernel_rfl) (fun _ _ _ h => h) (Or.inl ⟨by rfl, ?_⟩)  ?_
  · intro w hSw
    (try dsimp only at hSw)
    go_simp
  simp only [Act.put, List.setIfInBounds_toArray, List.set_cons_zero, List.set_cons_succ]
  refine wpAnyX_take (i := 6) (oi := { dst := some 134, op := Op.load 24 (Operand.tmp 6), type := 24, pos := "plain.go:207", after := #[{ on := 5, ground := Ground.guard }], guard := some (5, true) }) (v := (.agg #[(.bool nt), (.slice adt xt.length ct)])) rfl (by kernel_rfl) (fun _ _ _ h => h) (Or.inl ⟨by rfl, ?_⟩) ⟨Pb.out.c0, Pb.out.c1, Pr.out.c0, Pr.out.c1, Pa.out.c0, Pa.out.c1, Pt.out.c0, Pt.out.c1, Ps.out.c0, Ps.out.c1⟩ ?_
  · intro w hSw
    (try dsimp only at hSw)
    go_simp
  simp only [Act.put, List.setIfInBounds_toArray, List.set_cons_zero, List.set_cons_succ]
  refine wpAnyX_take (i := 7) (oi := { dst := some 135, op := Op.load 24 (Operand.tmp 7), type := 24, pos := "plain.go:207", after := #[{ on := 5, ground := Ground.guard }], guard := some (5, true) }) (v := (.agg #[(.bool nr), (.slice adr xr.length qr)])) rfl (by kernel_rfl) (fun _ _ _ h => h) (Or.inl ⟨by rfl, ?_⟩) ⟨Pb.out.c0, Pb.out.c1, Pr.out.c0, Pr.out.c1, Pa.out.c0, Pa.out.c1, Pt.out.c0, Pt.out.c1, Ps.out.c0, Ps.out.c1⟩ ?_
  · intro w hSw
    (try dsimp only at hSw)
    go_simp
  simp only [Act.put, List.setIfInBounds_toArray, List.set_cons_zero, List.set_cons_succ]
  refine wpAnyX_take (i := 8) (oi := { dst := some 136, op := Op.load 24 (Operand.tmp 5), type := 24, pos := "plain.go:207", after := #[{ on := 5, ground := Ground.guard }], guard := some (5, true) }) (v := (.agg #[(.bool ns), (.slice ads xs.length cs)])) rfl (by kernel_rfl) (fun _ _ _ h => h) (Or.inl ⟨by rfl, ?_⟩) ⟨Pb.out.c0, Pb.out.c1, Pr.out.c0, Pr.out.c1, Pa.out.c0, Pa.out.c1, Pt.out.c0, Pt.out.c1, Ps.out.c0, Ps.out.c1⟩ ?_
  · intro w hSw
    (try dsimp only at hSw)
    go_simp
  simp only [Act.put, List.setIfInBounds_toArray, List.set_cons_zero, List.set_cons_succ]
  refine wpAnyX_one (i := 9) (o := { dst := some 137, op := Op.call { callee := Callee.value (Operand.func 29), args := #[Operand.tmp 135, Operand.tmp 136], argTypes := #[24, 24] }, type := 24, pos := "plain.go:207", after := #[{ on := 7, ground := Ground.data }, { on := 8, ground := Ground.data }, { on := 5, ground := Ground.chain }, { on := 5, ground := Ground.guard }], guard := some (5, true) }) (by kernel_rfl) rfl (fun K hK => ?_)
  go_simp
  go_at_call 29
  refine (rsub_z Zr.out.zi Zs.out (by decide) (by decide)).mono ?_
  rintro e w50 ⟨r0, rfl, m0, b⟩
  obtain ⟨nq, xq, adq, qq, rfl, -, -, -, -, -⟩ := id m0
  replace Za := hid (Za.out.now b)
  replace Zb := hid (Zb.out.now b)
  replace Zs := hid (Zs.out.now b)
  replace Zt := hid (Zt.out.now b)
  replace Zr := hid (Zr.out.now b)
  replace Zn := hid (Zn.out.now b)
  replace Zf := hid (Zf.out.now b)
  replace Zh := hid (Zh.out.now b)
  replace Zg := hid (Zg.out.now b)
  replace Zd := hid (Zd.out.now b)
  replace Zp := hid (Zp.out.now b)
  replace Pa := hid (Pa.out.step b)
  replace Pb := hid (Pb.out.step b)
  replace Ps := hid (Ps.out.step b)
  replace Pt := hid (Pt.out.step b)
  replace Pr := hid (Pr.out.step b)
  replace Pn := hid (Pn.out.step b)
  replace Pf := hid (Pf.out.step b)
  replace Ph := hid (Ph.out.step b)
  replace Pg := hid (Pg.out.step b)
  replace Pd := hid (Pd.out.step b)
  replace G := hid (below_step G.out b)
  have lz51 := (show Below _ _ _ from b).size
  have Zq := hid m0
  clear b m0
  refine hK.out _ _ (fun _ _ => ⟨Pb.out.c0, Pb.out.c1, Pr.out.c0, Pr.out.c1, Pa.out.c0, Pa.out.c1, Pt.out.c0, Pt.out.c1, Ps.out.c0, Ps.out.c1⟩) ?_
  clear hK
  refine wpAnyX_one (i := 10) (o := { dst := some 138, op := Op.call { callee := Callee.value (Operand.func 16), args := #[Operand.tmp 134, Operand.tmp 137], argTypes := #[24, 24] }, type := 4, pos := "plain.go:207", after := #[{ on := 6, ground := Ground.data }, { on := 9, ground := Ground.data }, { on := 9, ground := Ground.chain }, { on := 5, ground := Ground.guard }], guard := some (5, true) }) (by kernel_rfl) rfl (fun K hK => ?_)
  go_simp
  go_at_call 16
  refine (divides6 Zt.out Zq.out.zi (by decide) (by decide) HV.out.d2).mono ?_
  rintro e w52 ⟨rfl, b⟩
  replace Za := hid (Za.out.now b)
  replace Zb := hid (Zb.out.now b)
  replace Zs := hid (Zs.out.now b)
  replace Zt := hid (Zt.out.now b)
  replace Zr := hid (Zr.out.now b)
  replace Zn := hid (Zn.out.now b)
  replace Zf := hid (Zf.out.now b)
  replace Zh := hid (Zh.out.now b)
  replace Zg := hid (Zg.out.now b)
  replace Zd := hid (Zd.out.now b)
  replace Zp := hid (Zp.out.now b)
  replace Zq := hid (Zq.out.now b)
  replace Pa := hid (Pa.out.step b)
  replace Pb := hid (Pb.out.step b)
  replace Ps := hid (Ps.out.step b)
  replace Pt := hid (Pt.out.step b)
  replace Pr := hid (Pr.out.step b)
  replace Pn := hid (Pn.out.step b)
  replace Pf := hid (Pf.out.step b)
  replace Ph := hid (Ph.out.step b)
  replace Pg := hid (Pg.out.step b)
  replace Pd := hid (Pd.out.step b)
  replace G := hid (below_step G.out b)
  have lz53 := (show Below _ _ _ from b).size
  clear b 
  refine hK.out _ _ (fun _ _ => ⟨Pb.out.c0, Pb.out.c1, Pr.out.c0, Pr.out.c1, Pa.out.c0, Pa.out.c1, Pt.out.c0, Pt.out.c1, Ps.out.c0, Ps.out.c1⟩) ?_
  clear hK
  refine wpAnyX_pure (i := 11) (oi := { dst := some 139, op := Op.pick (Operand.tmp 133) (Operand.tmp 138) (Operand.const (Value.bool false)), type := 4, pos := "plain.go:207", after := #[{ on := 5, ground := Ground.data }, { on := 10, ground := Ground.data }], guard := none }) (v := (.bool true)) rfl (by kernel_rfl) (fun _ _ _ h => h) (Or.inl ⟨by rfl, ?_⟩)  ?_
  · intro w hSw
    (try dsimp only at hSw)
    go_simp
  simp only [Act.put, List.setIfInBounds_toArray, List.set_cons_zero, List.set_cons_succ]
  refine wpAnyX_pure (i := 12) (oi := { dst := some 2, op := Op.assign (Operand.tmp 139), type := 4, pos := "plain.go:207", after := #[{ on := 11, ground := Ground.data }, { on := 10, ground := Ground.chain }, { on := 0, ground := Ground.phase }, { on := 1, ground := Ground.phase }, { on := 2, ground := Ground.phase }, { on := 3, ground := Ground.phase }, { on := 4, ground := Ground.phase }, { on := 5, ground := Ground.phase }, { on := 6, ground := Ground.phase }, { on := 7, ground := Ground.phase }, { on := 8, ground := Ground.phase }, { on := 9, ground := Ground.phase }, { on := 10, ground := Ground.phase }, { on := 11, ground := Ground.phase }], guard := none }) (v := (.bool true)) rfl (by kernel_rfl) (fun _ _ _ h => h) (Or.inl ⟨by rfl, ?_⟩)  ?_
  · intro w hSw
    (try dsimp only at hSw)
    go_simp
  simp only [Act.put, List.setIfInBounds_toArray, List.set_cons_zero, List.set_cons_succ]
  refine wpAnyX_done (by kernel_rfl) ?_ _
  go_wp2
  go_ret
  exact ⟨rfl, G.out⟩
end Go.Proofs.Ythdnnphpjdchnaa
