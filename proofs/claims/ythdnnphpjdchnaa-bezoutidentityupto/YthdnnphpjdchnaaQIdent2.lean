/-
  Ident2: the walk of BezoutIdentity.
-/
import Derived.Test.YthdnnphpjdchnaaQIdent0
namespace Go.Proofs.Ythdnnphpjdchnaa
open Go.RowKit
set_option linter.unusedVariables false

set_option maxHeartbeats 25600000 in
set_option maxRecDepth 100000 in
theorem ident_n {w : World} {va vb : Value} {A B : Int} (ha : Zi w va A 1048576) (hb : Zi w vb B 1048576) (hB : B ≠ 0) (hA : A ≠ 0) :
    Calls Try.prog 3 #[va, vb] w fun e w' => e = .returned (.bool true) ∧ Below w.heap.size w w' := by
  have HB := hid hB
  clear hB
  have HA := hid hA
  clear hA
  have za0 := ha
  obtain ⟨na, xa, ada, ca, rfl, -, -, -⟩ := ha
  have zb0 := hb
  obtain ⟨nb, xb, adb, cb, rfl, -, -, -⟩ := hb
  obtain ⟨W0, hW⟩ : ∃ W0, (w.alloc (duo (.bool na) (.slice ada xa.length ca))).alloc (duo (.bool nb) (.slice adb xb.length cb)) = W0 := ⟨_, rfl⟩
  obtain ⟨b0, sz0⟩ := alloc2 w (duo (.bool na) (.slice ada xa.length ca)) (duo (.bool nb) (.slice adb xb.length cb))
  rw [hW] at b0 sz0
  have Pa : Hid (Duo W0 (w.heap.size) (.bool na) (.slice ada xa.length ca)) := by unfold Hid; rw [← hW]; exact duo_late (duo_at (by simp)) _
  have Pb : Hid (Duo W0 (w.heap.size + 1) (.bool nb) (.slice adb xb.length cb)) := by unfold Hid; rw [← hW]; exact duo_at (by simp)
  have Za := hid (za0.now b0)
  clear za0
  have Zb := hid (zb0.now b0)
  clear zb0
  have G := hid b0
  clear b0
  have EW := hid hW
  clear hW
  go_enter Try.func3, Try.ntmps3
  skip
  go_wp2_with fail
  rw [EW.out]
  clear EW
  refine (wakes6 _).mono ?_
  rintro e w1 ⟨rfl, b⟩
  replace Za := hid (Za.out.now b)
  replace Zb := hid (Zb.out.now b)
  replace Pa := hid (Pa.out.step b)
  replace Pb := hid (Pb.out.step b)
  replace G := hid (below_step G.out b)
  have lz2 := (show Below _ _ _ from b).size
  clear b 
  have ca0 := Pa.out.c0
  have ca1 := Pa.out.c1
  have cb0 := Pb.out.c0
  have cb1 := Pb.out.c1
  go_wp2_with fail
  clear ca0 ca1 cb0 cb1
  refine (ext_z Za.out Zb.out (by decide) (by decide)).mono ?_
  rintro e w3 ⟨zg, zx, zy, r0, r1, r2, hx, rfl, m0, m1, m2, b⟩
  obtain ⟨ng, xg, adg, qg, rfl, -, -, -, -, -⟩ := id m0
  obtain ⟨nx, xx, adx, qx, rfl, -, -, -, -, -⟩ := id m1
  obtain ⟨ny, xy, ady, qy, rfl, -, -, -, -, -⟩ := id m2
  have HX := hid hx
  clear hx
  replace Za := hid (Za.out.now b)
  replace Zb := hid (Zb.out.now b)
  replace Pa := hid (Pa.out.step b)
  replace Pb := hid (Pb.out.step b)
  replace G := hid (below_step G.out b)
  have lz4 := (show Below _ _ _ from b).size
  have Zg := hid m0
  have Zx := hid m1
  have Zy := hid m2
  clear b m0 m1 m2
  obtain ⟨V5, hW⟩ : ∃ V5, ((w3.alloc (duo (.bool ng) (.slice adg xg.length qg))).alloc (duo (.bool nx) (.slice adx xx.length qx))).alloc (duo (.bool ny) (.slice ady xy.length qy)) = V5 := ⟨_, rfl⟩
  obtain ⟨kW, sz5⟩ := alloc3 w3 (duo (.bool ng) (.slice adg xg.length qg)) (duo (.bool nx) (.slice adx xx.length qx)) (duo (.bool ny) (.slice ady xy.length qy))
  rw [hW] at kW sz5
  replace Za := hid (Za.out.now kW)
  replace Zb := hid (Zb.out.now kW)
  replace Zg := hid (Zg.out.now kW)
  replace Zx := hid (Zx.out.now kW)
  replace Zy := hid (Zy.out.now kW)
  replace Pa := hid (Pa.out.step kW)
  replace Pb := hid (Pb.out.step kW)
  replace G := hid (below_step G.out kW)
  have lz6 := (show Below _ _ _ from kW).size
  have Pg : Hid (Duo V5 (w3.heap.size) (.bool ng) (.slice adg xg.length qg)) := by unfold Hid; rw [← hW]; exact duo_late (duo_late (duo_at (by simp)) _) _
  have Px : Hid (Duo V5 (w3.heap.size + 1) (.bool nx) (.slice adx xx.length qx)) := by unfold Hid; rw [← hW]; exact duo_late (duo_at (by simp)) _
  have Py : Hid (Duo V5 (w3.heap.size + 1 + 1) (.bool ny) (.slice ady xy.length qy)) := by unfold Hid; rw [← hW]; exact duo_at (by simp)
  clear kW
  have ca0 := Pa.out.c0
  have ca1 := Pa.out.c1
  have cb0 := Pb.out.c0
  have cb1 := Pb.out.c1
  rw [← hW] at ca0 ca1 cb0 cb1
  have EW := hid hW
  clear hW
  go_wp2_with fail
  rw [EW.out]
  clear EW
  clear ca0 ca1 cb0 cb1
  refine (gcd_z Za.out Zb.out (by decide)).mono ?_
  rintro e w7 ⟨r0, rfl, m0, b⟩
  obtain ⟨nh, xh, adh, qh, rfl, -, -, -, -, -⟩ := id m0
  replace Za := hid (Za.out.now b)
  replace Zb := hid (Zb.out.now b)
  replace Zg := hid (Zg.out.now b)
  replace Zx := hid (Zx.out.now b)
  replace Zy := hid (Zy.out.now b)
  replace Pa := hid (Pa.out.step b)
  replace Pb := hid (Pb.out.step b)
  replace Pg := hid (Pg.out.step b)
  replace Px := hid (Px.out.step b)
  replace Py := hid (Py.out.step b)
  replace G := hid (below_step G.out b)
  have lz8 := (show Below _ _ _ from b).size
  have Zh := hid m0
  clear b m0
  obtain ⟨V9, hW⟩ : ∃ V9, w7.alloc (duo (.bool nh) (.slice adh xh.length qh)) = V9 := ⟨_, rfl⟩
  obtain ⟨kW, sz9⟩ := alloc1 w7 (duo (.bool nh) (.slice adh xh.length qh))
  rw [hW] at kW sz9
  replace Za := hid (Za.out.now kW)
  replace Zb := hid (Zb.out.now kW)
  replace Zg := hid (Zg.out.now kW)
  replace Zx := hid (Zx.out.now kW)
  replace Zy := hid (Zy.out.now kW)
  replace Zh := hid (Zh.out.now kW)
  replace Pa := hid (Pa.out.step kW)
  replace Pb := hid (Pb.out.step kW)
  replace Pg := hid (Pg.out.step kW)
  replace Px := hid (Px.out.step kW)
  replace Py := hid (Py.out.step kW)
  replace G := hid (below_step G.out kW)
  have lz10 := (show Below _ _ _ from kW).size
  have Ph : Hid (Duo V9 (w7.heap.size) (.bool nh) (.slice adh xh.length qh)) := by unfold Hid; rw [← hW]; exact duo_at (by simp)
  clear kW
  have ca0 := Pa.out.c0
  have ca1 := Pa.out.c1
  have cb0 := Pb.out.c0
  have cb1 := Pb.out.c1
  rw [← hW] at ca0 ca1 cb0 cb1
  have EW := hid hW
  clear hW
  go_wp2_with fail
  rw [EW.out]
  clear EW
  clear ca0 ca1 cb0 cb1
  refine (lcm_z Za.out Zb.out (by decide)).mono ?_
  rintro e w11 ⟨r0, rfl, m0, b⟩
  obtain ⟨nl, xl, adl, ql, rfl, -, -, -, -, -⟩ := id m0
  replace Za := hid (Za.out.now b)
  replace Zb := hid (Zb.out.now b)
  replace Zg := hid (Zg.out.now b)
  replace Zx := hid (Zx.out.now b)
  replace Zy := hid (Zy.out.now b)
  replace Zh := hid (Zh.out.now b)
  replace Pa := hid (Pa.out.step b)
  replace Pb := hid (Pb.out.step b)
  replace Pg := hid (Pg.out.step b)
  replace Px := hid (Px.out.step b)
  replace Py := hid (Py.out.step b)
  replace Ph := hid (Ph.out.step b)
  replace G := hid (below_step G.out b)
  have lz12 := (show Below _ _ _ from b).size
  have Zl := hid m0
  clear b m0
  obtain ⟨V13, hW⟩ : ∃ V13, w11.alloc (duo (.bool nl) (.slice adl xl.length ql)) = V13 := ⟨_, rfl⟩
  obtain ⟨kW, sz13⟩ := alloc1 w11 (duo (.bool nl) (.slice adl xl.length ql))
  rw [hW] at kW sz13
  replace Za := hid (Za.out.now kW)
  replace Zb := hid (Zb.out.now kW)
  replace Zg := hid (Zg.out.now kW)
  replace Zx := hid (Zx.out.now kW)
  replace Zy := hid (Zy.out.now kW)
  replace Zh := hid (Zh.out.now kW)
  replace Zl := hid (Zl.out.now kW)
  replace Pa := hid (Pa.out.step kW)
  replace Pb := hid (Pb.out.step kW)
  replace Pg := hid (Pg.out.step kW)
  replace Px := hid (Px.out.step kW)
  replace Py := hid (Py.out.step kW)
  replace Ph := hid (Ph.out.step kW)
  replace G := hid (below_step G.out kW)
  have lz14 := (show Below _ _ _ from kW).size
  have Pl : Hid (Duo V13 (w11.heap.size) (.bool nl) (.slice adl xl.length ql)) := by unfold Hid; rw [← hW]; exact duo_at (by simp)
  clear kW
  have HV := hid (idv HX.out)
  have c1 := HV.out.g0
  have c2 := HV.out.l0
  have E1 : Hid (∀ (w' : World) (v : Value), Zi w' v zg 1048576 → _) := fun (w' : World) (v : Value) (h : Zi w' v zg 1048576) => rsign_z h (by decide)
  have E2 : Hid (∀ (w' : World) (v : Value) (k : Nat) (hk : k ≤ 1099511627776), Zi w' v (lcmv A B) k → _) := fun (w' : World) (v : Value) (k : Nat) (hk : k ≤ 1099511627776) (h : Zi w' v (lcmv A B) k) => rsign_z h hk
  have PP := hid HV.out.p
  have XV := hid (idv_x HX.out HB.out)
  have YV := hid (idv_y HX.out HB.out HA.out)
  generalize cmpI zg 0 = C1 at *
  generalize cmpI (lcmv A B) 0 = C2 at *
  generalize lcmv A B = LL at *
  have cg0 := Pg.out.c0
  have cg1 := Pg.out.c1
  rw [← hW] at cg0 cg1
  have EW := hid hW
  clear hW
  go_wp2_with fail
  rw [EW.out]
  clear EW
  clear cg0 cg1
  refine (least6 Zg.out.zc).mono ?_
  rintro e w15 ⟨rfl, b⟩
  replace Za := hid (Za.out.now b)
  replace Zb := hid (Zb.out.now b)
  replace Zg := hid (Zg.out.now b)
  replace Zx := hid (Zx.out.now b)
  replace Zy := hid (Zy.out.now b)
  replace Zh := hid (Zh.out.now b)
  replace Zl := hid (Zl.out.now b)
  replace Pa := hid (Pa.out.step b)
  replace Pb := hid (Pb.out.step b)
  replace Pg := hid (Pg.out.step b)
  replace Px := hid (Px.out.step b)
  replace Py := hid (Py.out.step b)
  replace Ph := hid (Ph.out.step b)
  replace Pl := hid (Pl.out.step b)
  replace G := hid (below_step G.out b)
  have lz16 := (show Below _ _ _ from b).size
  clear b 
  have cx0 := Px.out.c0
  have cx1 := Px.out.c1
  go_wp2_with fail
  clear cx0 cx1
  refine (least6 Zx.out.zc).mono ?_
  rintro e w17 ⟨rfl, b⟩
  replace Za := hid (Za.out.now b)
  replace Zb := hid (Zb.out.now b)
  replace Zg := hid (Zg.out.now b)
  replace Zx := hid (Zx.out.now b)
  replace Zy := hid (Zy.out.now b)
  replace Zh := hid (Zh.out.now b)
  replace Zl := hid (Zl.out.now b)
  replace Pa := hid (Pa.out.step b)
  replace Pb := hid (Pb.out.step b)
  replace Pg := hid (Pg.out.step b)
  replace Px := hid (Px.out.step b)
  replace Py := hid (Py.out.step b)
  replace Ph := hid (Ph.out.step b)
  replace Pl := hid (Pl.out.step b)
  replace G := hid (below_step G.out b)
  have lz18 := (show Below _ _ _ from b).size
  clear b 
  have cy0 := Py.out.c0
  have cy1 := Py.out.c1
  go_wp2_with fail
  clear cy0 cy1
  refine (least6 Zy.out.zc).mono ?_
  rintro e w19 ⟨rfl, b⟩
  replace Za := hid (Za.out.now b)
  replace Zb := hid (Zb.out.now b)
  replace Zg := hid (Zg.out.now b)
  replace Zx := hid (Zx.out.now b)
  replace Zy := hid (Zy.out.now b)
  replace Zh := hid (Zh.out.now b)
  replace Zl := hid (Zl.out.now b)
  replace Pa := hid (Pa.out.step b)
  replace Pb := hid (Pb.out.step b)
  replace Pg := hid (Pg.out.step b)
  replace Px := hid (Px.out.step b)
  replace Py := hid (Py.out.step b)
  replace Ph := hid (Ph.out.step b)
  replace Pl := hid (Pl.out.step b)
  replace G := hid (below_step G.out b)
  have lz20 := (show Below _ _ _ from b).size
  clear b 
  have cl0 := Pl.out.c0
  have cl1 := Pl.out.c1
  go_wp2_with fail
  clear cl0 cl1
  refine (least6 Zl.out.zc).mono ?_
  rintro e w21 ⟨rfl, b⟩
  replace Za := hid (Za.out.now b)
  replace Zb := hid (Zb.out.now b)
  replace Zg := hid (Zg.out.now b)
  replace Zx := hid (Zx.out.now b)
  replace Zy := hid (Zy.out.now b)
  replace Zh := hid (Zh.out.now b)
  replace Zl := hid (Zl.out.now b)
  replace Pa := hid (Pa.out.step b)
  replace Pb := hid (Pb.out.step b)
  replace Pg := hid (Pg.out.step b)
  replace Px := hid (Px.out.step b)
  replace Py := hid (Py.out.step b)
  replace Ph := hid (Ph.out.step b)
  replace Pl := hid (Pl.out.step b)
  replace G := hid (below_step G.out b)
  have lz22 := (show Below _ _ _ from b).size
  clear b 
  have cg0 := Pg.out.c0
  have cg1 := Pg.out.c1
  have ch0 := Ph.out.c0
  have ch1 := Ph.out.c1
  go_wp2_with fail
  clear cg0 cg1 ch0 ch1
  refine (alike6_yes Zg.out.zc Zh.out.zc HX.out.gcd).mono ?_
  rintro e w23 ⟨rfl, b⟩
  replace Za := hid (Za.out.now b)
  replace Zb := hid (Zb.out.now b)
  replace Zg := hid (Zg.out.now b)
  replace Zx := hid (Zx.out.now b)
  replace Zy := hid (Zy.out.now b)
  replace Zh := hid (Zh.out.now b)
  replace Zl := hid (Zl.out.now b)
  replace Pa := hid (Pa.out.step b)
  replace Pb := hid (Pb.out.step b)
  replace Pg := hid (Pg.out.step b)
  replace Px := hid (Px.out.step b)
  replace Py := hid (Py.out.step b)
  replace Ph := hid (Ph.out.step b)
  replace Pl := hid (Pl.out.step b)
  replace G := hid (below_step G.out b)
  have lz24 := (show Below _ _ _ from b).size
  clear b 
  have cg0 := Pg.out.c0
  have cg1 := Pg.out.c1
  go_wp2_with fail
  clear cg0 cg1
  refine (E1.out _ _ Zg.out.zi).mono ?_
  rintro e w25 ⟨rfl, b⟩
  replace Za := hid (Za.out.now b)
  replace Zb := hid (Zb.out.now b)
  replace Zg := hid (Zg.out.now b)
  replace Zx := hid (Zx.out.now b)
  replace Zy := hid (Zy.out.now b)
  replace Zh := hid (Zh.out.now b)
  replace Zl := hid (Zl.out.now b)
  replace Pa := hid (Pa.out.step b)
  replace Pb := hid (Pb.out.step b)
  replace Pg := hid (Pg.out.step b)
  replace Px := hid (Px.out.step b)
  replace Py := hid (Py.out.step b)
  replace Ph := hid (Ph.out.step b)
  replace Pl := hid (Pl.out.step b)
  replace G := hid (below_step G.out b)
  have lz26 := (show Below _ _ _ from b).size
  clear b 
  have cl0 := Pl.out.c0
  have cl1 := Pl.out.c1
  go_wp2_with fail
  clear cl0 cl1
  refine (E2.out _ _ _ (by decide) Zl.out.zi).mono ?_
  rintro e w27 ⟨rfl, b⟩
  replace Za := hid (Za.out.now b)
  replace Zb := hid (Zb.out.now b)
  replace Zg := hid (Zg.out.now b)
  replace Zx := hid (Zx.out.now b)
  replace Zy := hid (Zy.out.now b)
  replace Zh := hid (Zh.out.now b)
  replace Zl := hid (Zl.out.now b)
  replace Pa := hid (Pa.out.step b)
  replace Pb := hid (Pb.out.step b)
  replace Pg := hid (Pg.out.step b)
  replace Px := hid (Px.out.step b)
  replace Py := hid (Py.out.step b)
  replace Ph := hid (Ph.out.step b)
  replace Pl := hid (Pl.out.step b)
  replace G := hid (below_step G.out b)
  have lz28 := (show Below _ _ _ from b).size
  clear b 
  clear E1
  have cg0 := Pg.out.c0
  have cg1 := Pg.out.c1
  have ca0 := Pa.out.c0
  have ca1 := Pa.out.c1
  go_wp2_with fail
  clear cg0 cg1 ca0 ca1
  refine (divides6 Zg.out.zi Za.out (by decide) (by decide) HV.out.dA).mono ?_
  rintro e w29 ⟨rfl, b⟩
  replace Za := hid (Za.out.now b)
  replace Zb := hid (Zb.out.now b)
  replace Zg := hid (Zg.out.now b)
  replace Zx := hid (Zx.out.now b)
  replace Zy := hid (Zy.out.now b)
  replace Zh := hid (Zh.out.now b)
  replace Zl := hid (Zl.out.now b)
  replace Pa := hid (Pa.out.step b)
  replace Pb := hid (Pb.out.step b)
  replace Pg := hid (Pg.out.step b)
  replace Px := hid (Px.out.step b)
  replace Py := hid (Py.out.step b)
  replace Ph := hid (Ph.out.step b)
  replace Pl := hid (Pl.out.step b)
  replace G := hid (below_step G.out b)
  have lz30 := (show Below _ _ _ from b).size
  clear b 
  have cg0 := Pg.out.c0
  have cg1 := Pg.out.c1
  have cb0 := Pb.out.c0
  have cb1 := Pb.out.c1
  go_wp2_with fail
  clear cg0 cg1 cb0 cb1
  refine (divides6 Zg.out.zi Zb.out (by decide) (by decide) HV.out.dB).mono ?_
  rintro e w31 ⟨rfl, b⟩
  replace Za := hid (Za.out.now b)
  replace Zb := hid (Zb.out.now b)
  replace Zg := hid (Zg.out.now b)
  replace Zx := hid (Zx.out.now b)
  replace Zy := hid (Zy.out.now b)
  replace Zh := hid (Zh.out.now b)
  replace Zl := hid (Zl.out.now b)
  replace Pa := hid (Pa.out.step b)
  replace Pb := hid (Pb.out.step b)
  replace Pg := hid (Pg.out.step b)
  replace Px := hid (Px.out.step b)
  replace Py := hid (Py.out.step b)
  replace Ph := hid (Ph.out.step b)
  replace Pl := hid (Pl.out.step b)
  replace G := hid (below_step G.out b)
  have lz32 := (show Below _ _ _ from b).size
  clear b 
  go_wp2_with fail
  go_cut [10] from 17 (fun s1 wx => MetB w31 wx s1 (A * zx + B * zy) (max (1048576 + 1048576) (1048576 + 1048576) + 1))
  case first =>
    have GR : Hid (Below w31.heap.size w31 w31) := Below.refl _ _
    refine wp_region_tail (fun w' => w'.cell? ⟨w.heap.size, 0, none⟩ = some (.bool na) ∧ w'.cell? ⟨w.heap.size, 1, none⟩ = some (.slice ada xa.length ca) ∧ w'.cell? ⟨w3.heap.size + 1, 0, none⟩ = some (.bool nx) ∧ w'.cell? ⟨w3.heap.size + 1, 1, none⟩ = some (.slice adx xx.length qx) ∧ w'.cell? ⟨w.heap.size + 1, 0, none⟩ = some (.bool nb) ∧ w'.cell? ⟨w.heap.size + 1, 1, none⟩ = some (.slice adb xb.length cb) ∧ w'.cell? ⟨w3.heap.size + 1 + 1, 0, none⟩ = some (.bool ny) ∧ w'.cell? ⟨w3.heap.size + 1 + 1, 1, none⟩ = some (.slice ady xy.length qy)) 8 (by kernel_rfl) ?_
    obtain ⟨D33, hD⟩ : ∃ D33, w31.drew = D33 := ⟨_, rfl⟩
    have b : Below w31.heap.size w31 D33 := by rw [← hD]; exact (Below.refl _ _).drew
    rw [hD]
    clear hD
    replace Za := hid (Za.out.now b)
    replace Zb := hid (Zb.out.now b)
    replace Zg := hid (Zg.out.now b)
    replace Zx := hid (Zx.out.now b)
    replace Zy := hid (Zy.out.now b)
    replace Zh := hid (Zh.out.now b)
    replace Zl := hid (Zl.out.now b)
    replace Pa := hid (Pa.out.step b)
    replace Pb := hid (Pb.out.step b)
    replace Pg := hid (Pg.out.step b)
    replace Px := hid (Px.out.step b)
    replace Py := hid (Py.out.step b)
    replace Ph := hid (Ph.out.step b)
    replace Pl := hid (Pl.out.step b)
    replace G := hid (below_step G.out b)
    replace GR := hid (below_step GR.out b)
    have lz34 := (show Below _ _ _ from b).size
    clear b
    refine wpAnyT_take (i := 0) (oi := { dst := some 76, op := Op.load 24 (Operand.tmp 2), type := 24, pos := "plain.go:50", after := #[], guard := none }) (v := (.agg #[(.bool na), (.slice ada xa.length ca)])) rfl (by kernel_rfl) (fun _ _ _ h => h) (Or.inl ⟨by rfl, ?_⟩) ⟨Pa.out.c0, Pa.out.c1, Px.out.c0, Px.out.c1, Pb.out.c0, Pb.out.c1, Py.out.c0, Py.out.c1⟩ ?_
    · intro w hSw
      (try dsimp only at hSw)
      go_simp
    simp only [Act.put, List.setIfInBounds_toArray, List.set_cons_zero, List.set_cons_succ]
    refine wpAnyT_take (i := 1) (oi := { dst := some 77, op := Op.load 24 (Operand.tmp 6), type := 24, pos := "plain.go:50", after := #[], guard := none }) (v := (.agg #[(.bool nx), (.slice adx xx.length qx)])) rfl (by kernel_rfl) (fun _ _ _ h => h) (Or.inl ⟨by rfl, ?_⟩) ⟨Pa.out.c0, Pa.out.c1, Px.out.c0, Px.out.c1, Pb.out.c0, Pb.out.c1, Py.out.c0, Py.out.c1⟩ ?_
    · intro w hSw
      (try dsimp only at hSw)
      go_simp
    simp only [Act.put, List.setIfInBounds_toArray, List.set_cons_zero, List.set_cons_succ]
    refine wpAnyT_take (i := 3) (oi := { dst := some 79, op := Op.load 24 (Operand.tmp 3), type := 24, pos := "plain.go:50", after := #[], guard := none }) (v := (.agg #[(.bool nb), (.slice adb xb.length cb)])) rfl (by kernel_rfl) (fun _ _ _ h => h) (Or.inl ⟨by rfl, ?_⟩) ⟨Pa.out.c0, Pa.out.c1, Px.out.c0, Px.out.c1, Pb.out.c0, Pb.out.c1, Py.out.c0, Py.out.c1⟩ ?_
    · intro w hSw
      (try dsimp only at hSw)
      go_simp
    simp only [Act.put, List.setIfInBounds_toArray, List.set_cons_zero, List.set_cons_succ]
    refine wpAnyT_take (i := 4) (oi := { dst := some 80, op := Op.load 24 (Operand.tmp 7), type := 24, pos := "plain.go:50", after := #[], guard := none }) (v := (.agg #[(.bool ny), (.slice ady xy.length qy)])) rfl (by kernel_rfl) (fun _ _ _ h => h) (Or.inl ⟨by rfl, ?_⟩) ⟨Pa.out.c0, Pa.out.c1, Px.out.c0, Px.out.c1, Pb.out.c0, Pb.out.c1, Py.out.c0, Py.out.c1⟩ ?_
    · intro w hSw
      (try dsimp only at hSw)
      go_simp
    simp only [Act.put, List.setIfInBounds_toArray, List.set_cons_zero, List.set_cons_succ]
    refine wpAnyT_two (i := 2) (j := 7) (oi := { dst := some 78, op := Op.call { callee := Callee.value (Operand.func 18), args := #[Operand.tmp 76, Operand.tmp 77], argTypes := #[24, 24] }, type := 24, pos := "plain.go:50", after := #[{ on := 0, ground := Ground.data }, { on := 1, ground := Ground.data }], guard := none }) (oj := { dst := some 10, op := Op.alloc 24, type := 0, pos := "plain.go:50", after := #[], guard := none }) (by kernel_rfl) rfl rfl (fun K hK => ?_) (fun K hK => ?_)
    · skip
      go_simp
      go_at_call 18
      refine (rmul_z Za.out Zx.out.zi (by decide) (by decide)).mono ?_
      rintro e w35 ⟨r0, rfl, m0, b⟩
      obtain ⟨nu, xu, adu, qu, rfl, -, -, -, -, -⟩ := id m0
      replace Za := hid (Za.out.now b)
      replace Zb := hid (Zb.out.now b)
      replace Zg := hid (Zg.out.now b)
      replace Zx := hid (Zx.out.now b)
      replace Zy := hid (Zy.out.now b)
      replace Zh := hid (Zh.out.now b)
      replace Zl := hid (Zl.out.now b)
      replace Pa := hid (Pa.out.step b)
      replace Pb := hid (Pb.out.step b)
      replace Pg := hid (Pg.out.step b)
      replace Px := hid (Px.out.step b)
      replace Py := hid (Py.out.step b)
      replace Ph := hid (Ph.out.step b)
      replace Pl := hid (Pl.out.step b)
      replace G := hid (below_step G.out b)
      replace GR := hid (below_step GR.out b)
      have lz36 := (show Below _ _ _ from b).size
      have Zu := hid m0
      clear b m0
      refine hK.out _ _ (fun _ => ⟨Pa.out.c0, Pa.out.c1, Px.out.c0, Px.out.c1, Pb.out.c0, Pb.out.c1, Py.out.c0, Py.out.c1⟩) ?_
      clear hK
      refine wpAnyT_two (i := 5) (j := 7) (oi := { dst := some 81, op := Op.call { callee := Callee.value (Operand.func 18), args := #[Operand.tmp 79, Operand.tmp 80], argTypes := #[24, 24] }, type := 24, pos := "plain.go:50", after := #[{ on := 3, ground := Ground.data }, { on := 4, ground := Ground.data }, { on := 2, ground := Ground.chain }], guard := none }) (oj := { dst := some 10, op := Op.alloc 24, type := 0, pos := "plain.go:50", after := #[], guard := none }) (by kernel_rfl) rfl rfl (fun K hK => ?_) (fun K hK => ?_)
      · skip
        go_simp
        go_at_call 18
        refine (rmul_z Zb.out Zy.out.zi (by decide) (by decide)).mono ?_
        rintro e w37 ⟨r0, rfl, m0, b⟩
        obtain ⟨nv, xv, adv, qv, rfl, -, -, -, -, -⟩ := id m0
        replace Za := hid (Za.out.now b)
        replace Zb := hid (Zb.out.now b)
        replace Zg := hid (Zg.out.now b)
        replace Zx := hid (Zx.out.now b)
        replace Zy := hid (Zy.out.now b)
        replace Zh := hid (Zh.out.now b)
        replace Zl := hid (Zl.out.now b)
        replace Zu := hid (Zu.out.now b)
        replace Pa := hid (Pa.out.step b)
        replace Pb := hid (Pb.out.step b)
        replace Pg := hid (Pg.out.step b)
        replace Px := hid (Px.out.step b)
        replace Py := hid (Py.out.step b)
        replace Ph := hid (Ph.out.step b)
        replace Pl := hid (Pl.out.step b)
        replace G := hid (below_step G.out b)
        replace GR := hid (below_step GR.out b)
        have lz38 := (show Below _ _ _ from b).size
        have Zv := hid m0
        clear b m0
        refine hK.out _ _ (fun _ => ⟨Pa.out.c0, Pa.out.c1, Px.out.c0, Px.out.c1, Pb.out.c0, Pb.out.c1, Py.out.c0, Py.out.c1⟩) ?_
        clear hK
        refine wpAnyT_two (i := 6) (j := 7) (oi := { dst := some 82, op := Op.call { callee := Callee.value (Operand.func 17), args := #[Operand.tmp 78, Operand.tmp 81], argTypes := #[24, 24] }, type := 24, pos := "plain.go:50", after := #[{ on := 2, ground := Ground.data }, { on := 5, ground := Ground.data }, { on := 5, ground := Ground.chain }], guard := none }) (oj := { dst := some 10, op := Op.alloc 24, type := 0, pos := "plain.go:50", after := #[], guard := none }) (by kernel_rfl) rfl rfl (fun K hK => ?_) (fun K hK => ?_)
        · skip
          go_simp
          go_at_call 17
          refine (radd_z Zu.out.zi Zv.out.zi (by decide) (by decide)).mono ?_
          rintro e w39 ⟨r0, rfl, m0, b⟩
          obtain ⟨ns, xs, ads, qs, rfl, -, -, -, -, -⟩ := id m0
          replace Za := hid (Za.out.now b)
          replace Zb := hid (Zb.out.now b)
          replace Zg := hid (Zg.out.now b)
          replace Zx := hid (Zx.out.now b)
          replace Zy := hid (Zy.out.now b)
          replace Zh := hid (Zh.out.now b)
          replace Zl := hid (Zl.out.now b)
          replace Zu := hid (Zu.out.now b)
          replace Zv := hid (Zv.out.now b)
          replace Pa := hid (Pa.out.step b)
          replace Pb := hid (Pb.out.step b)
          replace Pg := hid (Pg.out.step b)
          replace Px := hid (Px.out.step b)
          replace Py := hid (Py.out.step b)
          replace Ph := hid (Ph.out.step b)
          replace Pl := hid (Pl.out.step b)
          replace G := hid (below_step G.out b)
          replace GR := hid (below_step GR.out b)
          have lz40 := (show Below _ _ _ from b).size
          have Zs := hid m0
          clear b m0
          refine hK.out _ _ (fun _ => ⟨Pa.out.c0, Pa.out.c1, Px.out.c0, Px.out.c1, Pb.out.c0, Pb.out.c1, Py.out.c0, Py.out.c1⟩) ?_
          clear hK
          refine wpAnyT_one (i := 7) (o := { dst := some 10, op := Op.alloc 24, type := 0, pos := "plain.go:50", after := #[], guard := none }) (by kernel_rfl) rfl (fun K hK => ?_)
          go_simp
          obtain ⟨V41, hW⟩ : ∃ V41, w39.alloc zbox = V41 := ⟨_, rfl⟩
          obtain ⟨kW, sz41⟩ := alloc1 w39 zbox
          rw [hW] at kW sz41
          replace Za := hid (Za.out.now kW)
          replace Zb := hid (Zb.out.now kW)
          replace Zg := hid (Zg.out.now kW)
          replace Zx := hid (Zx.out.now kW)
          replace Zy := hid (Zy.out.now kW)
          replace Zh := hid (Zh.out.now kW)
          replace Zl := hid (Zl.out.now kW)
          replace Zu := hid (Zu.out.now kW)
          replace Zv := hid (Zv.out.now kW)
          replace Zs := hid (Zs.out.now kW)
          replace Pa := hid (Pa.out.step kW)
          replace Pb := hid (Pb.out.step kW)
          replace Pg := hid (Pg.out.step kW)
          replace Px := hid (Px.out.step kW)
          replace Py := hid (Py.out.step kW)
          replace Ph := hid (Ph.out.step kW)
          replace Pl := hid (Pl.out.step kW)
          replace G := hid (below_step G.out kW)
          replace GR := hid (below_step GR.out kW)
          have lz42 := (show Below _ _ _ from kW).size
          have PN10 : Hid (Duo V41 (w39.heap.size) (.bool false) (.slice none 0 0)) := by unfold Hid; rw [← hW]; exact duo_at rfl
          rw [hW]
          clear hW kW
          refine hK.out _ _ (fun _ => ⟨Pa.out.c0, Pa.out.c1, Px.out.c0, Px.out.c1, Pb.out.c0, Pb.out.c1, Py.out.c0, Py.out.c1⟩) ?_
          clear hK
          try simp only [Act.put]
          refine wpAnyT_one (i := 8) (o := { dst := none, op := Op.store 24 (Operand.tmp 10) (Operand.tmp 82), type := 0, pos := "plain.go:50", after := #[{ on := 7, ground := Ground.data }, { on := 6, ground := Ground.data }, { on := 6, ground := Ground.chain }, { on := 0, ground := Ground.phase }, { on := 1, ground := Ground.phase }, { on := 2, ground := Ground.phase }, { on := 3, ground := Ground.phase }, { on := 4, ground := Ground.phase }, { on := 5, ground := Ground.phase }, { on := 6, ground := Ground.phase }, { on := 7, ground := Ground.phase }], guard := none }) (by kernel_rfl) rfl (fun K hK => ?_)
          have cN100 := PN10.out.c0
          have cN101 := PN10.out.c1
          have fN100 := PN10.out.fz 0
          have fN101 := PN10.out.fz 1
          go_simp
          clear cN100 cN101 fN100 fN101
          obtain ⟨V43, hW⟩ : ∃ V43, (V41.setCell ⟨w39.heap.size, 0, none⟩ (.bool ns)).setCell ⟨w39.heap.size, 1, none⟩ (.slice ads xs.length qs) = V43 := ⟨_, rfl⟩
          replace Za := hid ((Za.out).wk ((PN10.out).wk (.bool ns) (.slice ads xs.length qs)))
          replace Zb := hid ((Zb.out).wk ((PN10.out).wk (.bool ns) (.slice ads xs.length qs)))
          replace Zg := hid ((Zg.out).box (PN10.out) (.bool ns) (.slice ads xs.length qs))
          replace Zx := hid ((Zx.out).box (PN10.out) (.bool ns) (.slice ads xs.length qs))
          replace Zy := hid ((Zy.out).box (PN10.out) (.bool ns) (.slice ads xs.length qs))
          replace Zh := hid ((Zh.out).box (PN10.out) (.bool ns) (.slice ads xs.length qs))
          replace Zl := hid ((Zl.out).box (PN10.out) (.bool ns) (.slice ads xs.length qs))
          replace Zu := hid ((Zu.out).box (PN10.out) (.bool ns) (.slice ads xs.length qs))
          replace Zv := hid ((Zv.out).box (PN10.out) (.bool ns) (.slice ads xs.length qs))
          replace Zs := hid ((Zs.out).box (PN10.out) (.bool ns) (.slice ads xs.length qs))
          replace Pa := hid ((Pa.out).box (b' := w39.heap.size) (by omega) (.bool ns) (.slice ads xs.length qs))
          replace Pb := hid ((Pb.out).box (b' := w39.heap.size) (by omega) (.bool ns) (.slice ads xs.length qs))
          replace Pg := hid ((Pg.out).box (b' := w39.heap.size) (by omega) (.bool ns) (.slice ads xs.length qs))
          replace Px := hid ((Px.out).box (b' := w39.heap.size) (by omega) (.bool ns) (.slice ads xs.length qs))
          replace Py := hid ((Py.out).box (b' := w39.heap.size) (by omega) (.bool ns) (.slice ads xs.length qs))
          replace Ph := hid ((Ph.out).box (b' := w39.heap.size) (by omega) (.bool ns) (.slice ads xs.length qs))
          replace Pl := hid ((Pl.out).box (b' := w39.heap.size) (by omega) (.bool ns) (.slice ads xs.length qs))
          replace PN10 := hid ((PN10.out).set (.bool ns) (.slice ads xs.length qs))
          replace G : Hid (Below w.heap.size w (((V41.setCell ⟨w39.heap.size, 0, none⟩ (.bool ns)).setCell ⟨w39.heap.size, 1, none⟩ (.slice ads xs.length qs)))) := bset (bset (G.out) (by omega)) (by omega)
          replace GR : Hid (Below w31.heap.size w31 (((V41.setCell ⟨w39.heap.size, 0, none⟩ (.bool ns)).setCell ⟨w39.heap.size, 1, none⟩ (.slice ads xs.length qs)))) := bset (bset (GR.out) (by omega)) (by omega)
          have sz43 : V43.heap.size = V41.heap.size := by rw [← hW]; simp
          rw [hW] at Za Zb Zg Zx Zy Zh Zl Zu Zv Zs Pa Pb Pg Px Py Ph Pl PN10 G GR
          rw [hW]
          clear hW
          refine hK.out _ _ (fun h => absurd h (by decide)) ?_
          clear hK
          try simp only [Act.put]
          refine wpAnyT_done (by kernel_rfl) ?_ _
          go_wp2_with fail
          go_meet
          exact ⟨_, _, _, _, _, rfl, GR.out, by omega, PN10.out.blk, PN10.out, Zs.out.mono (by omega)⟩
        · skip
          go_simp
          obtain ⟨V44, hW⟩ : ∃ V44, w37.alloc zbox = V44 := ⟨_, rfl⟩
          obtain ⟨kW, sz44⟩ := alloc1 w37 zbox
          rw [hW] at kW sz44
          replace Za := hid (Za.out.now kW)
          replace Zb := hid (Zb.out.now kW)
          replace Zg := hid (Zg.out.now kW)
          replace Zx := hid (Zx.out.now kW)
          replace Zy := hid (Zy.out.now kW)
          replace Zh := hid (Zh.out.now kW)
          replace Zl := hid (Zl.out.now kW)
          replace Zu := hid (Zu.out.now kW)
          replace Zv := hid (Zv.out.now kW)
          replace Pa := hid (Pa.out.step kW)
          replace Pb := hid (Pb.out.step kW)
          replace Pg := hid (Pg.out.step kW)
          replace Px := hid (Px.out.step kW)
          replace Py := hid (Py.out.step kW)
          replace Ph := hid (Ph.out.step kW)
          replace Pl := hid (Pl.out.step kW)
          replace G := hid (below_step G.out kW)
          replace GR := hid (below_step GR.out kW)
          have lz45 := (show Below _ _ _ from kW).size
          have PN10 : Hid (Duo V44 (w37.heap.size) (.bool false) (.slice none 0 0)) := by unfold Hid; rw [← hW]; exact duo_at rfl
          rw [hW]
          clear hW kW
          refine hK.out _ _ (fun _ => ⟨Pa.out.c0, Pa.out.c1, Px.out.c0, Px.out.c1, Pb.out.c0, Pb.out.c1, Py.out.c0, Py.out.c1⟩) ?_
          clear hK
          try simp only [Act.put]
          refine wpAnyT_one (i := 6) (o := { dst := some 82, op := Op.call { callee := Callee.value (Operand.func 17), args := #[Operand.tmp 78, Operand.tmp 81], argTypes := #[24, 24] }, type := 24, pos := "plain.go:50", after := #[{ on := 2, ground := Ground.data }, { on := 5, ground := Ground.data }, { on := 5, ground := Ground.chain }], guard := none }) (by kernel_rfl) rfl (fun K hK => ?_)
          go_simp
          go_at_call 17
          refine (radd_z Zu.out.zi Zv.out.zi (by decide) (by decide)).mono ?_
          rintro e w46 ⟨r0, rfl, m0, b⟩
          obtain ⟨ns, xs, ads, qs, rfl, -, -, -, -, -⟩ := id m0
          replace Za := hid (Za.out.now b)
          replace Zb := hid (Zb.out.now b)
          replace Zg := hid (Zg.out.now b)
          replace Zx := hid (Zx.out.now b)
          replace Zy := hid (Zy.out.now b)
          replace Zh := hid (Zh.out.now b)
          replace Zl := hid (Zl.out.now b)
          replace Zu := hid (Zu.out.now b)
          replace Zv := hid (Zv.out.now b)
          replace Pa := hid (Pa.out.step b)
          replace Pb := hid (Pb.out.step b)
          replace Pg := hid (Pg.out.step b)
          replace Px := hid (Px.out.step b)
          replace Py := hid (Py.out.step b)
          replace Ph := hid (Ph.out.step b)
          replace Pl := hid (Pl.out.step b)
          replace PN10 := hid (PN10.out.step b)
          replace G := hid (below_step G.out b)
          replace GR := hid (below_step GR.out b)
          have lz47 := (show Below _ _ _ from b).size
          have Zs := hid m0
          clear b m0
          refine hK.out _ _ (fun _ => ⟨Pa.out.c0, Pa.out.c1, Px.out.c0, Px.out.c1, Pb.out.c0, Pb.out.c1, Py.out.c0, Py.out.c1⟩) ?_
          clear hK
          refine wpAnyT_one (i := 8) (o := { dst := none, op := Op.store 24 (Operand.tmp 10) (Operand.tmp 82), type := 0, pos := "plain.go:50", after := #[{ on := 7, ground := Ground.data }, { on := 6, ground := Ground.data }, { on := 6, ground := Ground.chain }, { on := 0, ground := Ground.phase }, { on := 1, ground := Ground.phase }, { on := 2, ground := Ground.phase }, { on := 3, ground := Ground.phase }, { on := 4, ground := Ground.phase }, { on := 5, ground := Ground.phase }, { on := 6, ground := Ground.phase }, { on := 7, ground := Ground.phase }], guard := none }) (by kernel_rfl) rfl (fun K hK => ?_)
          have cN100 := PN10.out.c0
          have cN101 := PN10.out.c1
          have fN100 := PN10.out.fz 0
          have fN101 := PN10.out.fz 1
          go_simp
          clear cN100 cN101 fN100 fN101
          obtain ⟨V48, hW⟩ : ∃ V48, (w46.setCell ⟨w37.heap.size, 0, none⟩ (.bool ns)).setCell ⟨w37.heap.size, 1, none⟩ (.slice ads xs.length qs) = V48 := ⟨_, rfl⟩
          replace Za := hid ((Za.out).wk ((PN10.out).wk (.bool ns) (.slice ads xs.length qs)))
          replace Zb := hid ((Zb.out).wk ((PN10.out).wk (.bool ns) (.slice ads xs.length qs)))
          replace Zg := hid ((Zg.out).box (PN10.out) (.bool ns) (.slice ads xs.length qs))
          replace Zx := hid ((Zx.out).box (PN10.out) (.bool ns) (.slice ads xs.length qs))
          replace Zy := hid ((Zy.out).box (PN10.out) (.bool ns) (.slice ads xs.length qs))
          replace Zh := hid ((Zh.out).box (PN10.out) (.bool ns) (.slice ads xs.length qs))
          replace Zl := hid ((Zl.out).box (PN10.out) (.bool ns) (.slice ads xs.length qs))
          replace Zu := hid ((Zu.out).box (PN10.out) (.bool ns) (.slice ads xs.length qs))
          replace Zv := hid ((Zv.out).box (PN10.out) (.bool ns) (.slice ads xs.length qs))
          replace Zs := hid ((Zs.out).box (PN10.out) (.bool ns) (.slice ads xs.length qs))
          replace Pa := hid ((Pa.out).box (b' := w37.heap.size) (by omega) (.bool ns) (.slice ads xs.length qs))
          replace Pb := hid ((Pb.out).box (b' := w37.heap.size) (by omega) (.bool ns) (.slice ads xs.length qs))
          replace Pg := hid ((Pg.out).box (b' := w37.heap.size) (by omega) (.bool ns) (.slice ads xs.length qs))
          replace Px := hid ((Px.out).box (b' := w37.heap.size) (by omega) (.bool ns) (.slice ads xs.length qs))
          replace Py := hid ((Py.out).box (b' := w37.heap.size) (by omega) (.bool ns) (.slice ads xs.length qs))
          replace Ph := hid ((Ph.out).box (b' := w37.heap.size) (by omega) (.bool ns) (.slice ads xs.length qs))
          replace Pl := hid ((Pl.out).box (b' := w37.heap.size) (by omega) (.bool ns) (.slice ads xs.length qs))
          replace PN10 := hid ((PN10.out).set (.bool ns) (.slice ads xs.length qs))
          replace G : Hid (Below w.heap.size w (((w46.setCell ⟨w37.heap.size, 0, none⟩ (.bool ns)).setCell ⟨w37.heap.size, 1, none⟩ (.slice ads xs.length qs)))) := bset (bset (G.out) (by omega)) (by omega)
          replace GR : Hid (Below w31.heap.size w31 (((w46.setCell ⟨w37.heap.size, 0, none⟩ (.bool ns)).setCell ⟨w37.heap.size, 1, none⟩ (.slice ads xs.length qs)))) := bset (bset (GR.out) (by omega)) (by omega)
          have sz48 : V48.heap.size = w46.heap.size := by rw [← hW]; simp
          rw [hW] at Za Zb Zg Zx Zy Zh Zl Zu Zv Zs Pa Pb Pg Px Py Ph Pl PN10 G GR
          rw [hW]
          clear hW
          refine hK.out _ _ (fun h => absurd h (by decide)) ?_
          clear hK
          try simp only [Act.put]
          refine wpAnyT_done (by kernel_rfl) ?_ _
          go_wp2_with fail
          go_meet
          exact ⟨_, _, _, _, _, rfl, GR.out, by omega, PN10.out.blk, PN10.out, Zs.out.mono (by omega)⟩
      · skip
        go_simp
        obtain ⟨V49, hW⟩ : ∃ V49, w35.alloc zbox = V49 := ⟨_, rfl⟩
        obtain ⟨kW, sz49⟩ := alloc1 w35 zbox
        rw [hW] at kW sz49
        replace Za := hid (Za.out.now kW)
        replace Zb := hid (Zb.out.now kW)
        replace Zg := hid (Zg.out.now kW)
        replace Zx := hid (Zx.out.now kW)
        replace Zy := hid (Zy.out.now kW)
        replace Zh := hid (Zh.out.now kW)
        replace Zl := hid (Zl.out.now kW)
        replace Zu := hid (Zu.out.now kW)
        replace Pa := hid (Pa.out.step kW)
        replace Pb := hid (Pb.out.step kW)
        replace Pg := hid (Pg.out.step kW)
        replace Px := hid (Px.out.step kW)
        replace Py := hid (Py.out.step kW)
        replace Ph := hid (Ph.out.step kW)
        replace Pl := hid (Pl.out.step kW)
        replace G := hid (below_step G.out kW)
        replace GR := hid (below_step GR.out kW)
        have lz50 := (show Below _ _ _ from kW).size
        have PN10 : Hid (Duo V49 (w35.heap.size) (.bool false) (.slice none 0 0)) := by unfold Hid; rw [← hW]; exact duo_at rfl
        rw [hW]
        clear hW kW
        refine hK.out _ _ (fun _ => ⟨Pa.out.c0, Pa.out.c1, Px.out.c0, Px.out.c1, Pb.out.c0, Pb.out.c1, Py.out.c0, Py.out.c1⟩) ?_
        clear hK
        try simp only [Act.put]
        refine wpAnyT_one (i := 5) (o := { dst := some 81, op := Op.call { callee := Callee.value (Operand.func 18), args := #[Operand.tmp 79, Operand.tmp 80], argTypes := #[24, 24] }, type := 24, pos := "plain.go:50", after := #[{ on := 3, ground := Ground.data }, { on := 4, ground := Ground.data }, { on := 2, ground := Ground.chain }], guard := none }) (by kernel_rfl) rfl (fun K hK => ?_)
        go_simp
        go_at_call 18
        refine (rmul_z Zb.out Zy.out.zi (by decide) (by decide)).mono ?_
        rintro e w51 ⟨r0, rfl, m0, b⟩
        obtain ⟨nv, xv, adv, qv, rfl, -, -, -, -, -⟩ := id m0
        replace Za := hid (Za.out.now b)
        replace Zb := hid (Zb.out.now b)
        replace Zg := hid (Zg.out.now b)
        replace Zx := hid (Zx.out.now b)
        replace Zy := hid (Zy.out.now b)
        replace Zh := hid (Zh.out.now b)
        replace Zl := hid (Zl.out.now b)
        replace Zu := hid (Zu.out.now b)
        replace Pa := hid (Pa.out.step b)
        replace Pb := hid (Pb.out.step b)
        replace Pg := hid (Pg.out.step b)
        replace Px := hid (Px.out.step b)
        replace Py := hid (Py.out.step b)
        replace Ph := hid (Ph.out.step b)
        replace Pl := hid (Pl.out.step b)
        replace PN10 := hid (PN10.out.step b)
        replace G := hid (below_step G.out b)
        replace GR := hid (below_step GR.out b)
        have lz52 := (show Below _ _ _ from b).size
        have Zv := hid m0
        clear b m0
        refine hK.out _ _ (fun _ => ⟨Pa.out.c0, Pa.out.c1, Px.out.c0, Px.out.c1, Pb.out.c0, Pb.out.c1, Py.out.c0, Py.out.c1⟩) ?_
        clear hK
        refine wpAnyT_one (i := 6) (o := { dst := some 82, op := Op.call { callee := Callee.value (Operand.func 17), args := #[Operand.tmp 78, Operand.tmp 81], argTypes := #[24, 24] }, type := 24, pos := "plain.go:50", after := #[{ on := 2, ground := Ground.data }, { on := 5, ground := Ground.data }, { on := 5, ground := Ground.chain }], guard := none }) (by kernel_rfl) rfl (fun K hK => ?_)
        go_simp
        go_at_call 17
        refine (radd_z Zu.out.zi Zv.out.zi (by decide) (by decide)).mono ?_
        rintro e w53 ⟨r0, rfl, m0, b⟩
        obtain ⟨ns, xs, ads, qs, rfl, -, -, -, -, -⟩ := id m0
        replace Za := hid (Za.out.now b)
        replace Zb := hid (Zb.out.now b)
        replace Zg := hid (Zg.out.now b)
        replace Zx := hid (Zx.out.now b)
        replace Zy := hid (Zy.out.now b)
        replace Zh := hid (Zh.out.now b)
        replace Zl := hid (Zl.out.now b)
        replace Zu := hid (Zu.out.now b)
        replace Zv := hid (Zv.out.now b)
        replace Pa := hid (Pa.out.step b)
        replace Pb := hid (Pb.out.step b)
        replace Pg := hid (Pg.out.step b)
        replace Px := hid (Px.out.step b)
        replace Py := hid (Py.out.step b)
        replace Ph := hid (Ph.out.step b)
        replace Pl := hid (Pl.out.step b)
        replace PN10 := hid (PN10.out.step b)
        replace G := hid (below_step G.out b)
        replace GR := hid (below_step GR.out b)
        have lz54 := (show Below _ _ _ from b).size
        have Zs := hid m0
        clear b m0
        refine hK.out _ _ (fun _ => ⟨Pa.out.c0, Pa.out.c1, Px.out.c0, Px.out.c1, Pb.out.c0, Pb.out.c1, Py.out.c0, Py.out.c1⟩) ?_
        clear hK
        refine wpAnyT_one (i := 8) (o := { dst := none, op := Op.store 24 (Operand.tmp 10) (Operand.tmp 82), type := 0, pos := "plain.go:50", after := #[{ on := 7, ground := Ground.data }, { on := 6, ground := Ground.data }, { on := 6, ground := Ground.chain }, { on := 0, ground := Ground.phase }, { on := 1, ground := Ground.phase }, { on := 2, ground := Ground.phase }, { on := 3, ground := Ground.phase }, { on := 4, ground := Ground.phase }, { on := 5, ground := Ground.phase }, { on := 6, ground := Ground.phase }, { on := 7, ground := Ground.phase }], guard := none }) (by kernel_rfl) rfl (fun K hK => ?_)
        have cN100 := PN10.out.c0
        have cN101 := PN10.out.c1
        have fN100 := PN10.out.fz 0
        have fN101 := PN10.out.fz 1
        go_simp
        clear cN100 cN101 fN100 fN101
        obtain ⟨V55, hW⟩ : ∃ V55, (w53.setCell ⟨w35.heap.size, 0, none⟩ (.bool ns)).setCell ⟨w35.heap.size, 1, none⟩ (.slice ads xs.length qs) = V55 := ⟨_, rfl⟩
        replace Za := hid ((Za.out).wk ((PN10.out).wk (.bool ns) (.slice ads xs.length qs)))
        replace Zb := hid ((Zb.out).wk ((PN10.out).wk (.bool ns) (.slice ads xs.length qs)))
        replace Zg := hid ((Zg.out).box (PN10.out) (.bool ns) (.slice ads xs.length qs))
        replace Zx := hid ((Zx.out).box (PN10.out) (.bool ns) (.slice ads xs.length qs))
        replace Zy := hid ((Zy.out).box (PN10.out) (.bool ns) (.slice ads xs.length qs))
        replace Zh := hid ((Zh.out).box (PN10.out) (.bool ns) (.slice ads xs.length qs))
        replace Zl := hid ((Zl.out).box (PN10.out) (.bool ns) (.slice ads xs.length qs))
        replace Zu := hid ((Zu.out).box (PN10.out) (.bool ns) (.slice ads xs.length qs))
        replace Zv := hid ((Zv.out).box (PN10.out) (.bool ns) (.slice ads xs.length qs))
        replace Zs := hid ((Zs.out).box (PN10.out) (.bool ns) (.slice ads xs.length qs))
        replace Pa := hid ((Pa.out).box (b' := w35.heap.size) (by omega) (.bool ns) (.slice ads xs.length qs))
        replace Pb := hid ((Pb.out).box (b' := w35.heap.size) (by omega) (.bool ns) (.slice ads xs.length qs))
        replace Pg := hid ((Pg.out).box (b' := w35.heap.size) (by omega) (.bool ns) (.slice ads xs.length qs))
        replace Px := hid ((Px.out).box (b' := w35.heap.size) (by omega) (.bool ns) (.slice ads xs.length qs))
        replace Py := hid ((Py.out).box (b' := w35.heap.size) (by omega) (.bool ns) (.slice ads xs.length qs))
        replace Ph := hid ((Ph.out).box (b' := w35.heap.size) (by omega) (.bool ns) (.slice ads xs.length qs))
        replace Pl := hid ((Pl.out).box (b' := w35.heap.size) (by omega) (.bool ns) (.slice ads xs.length qs))
        replace PN10 := hid ((PN10.out).set (.bool ns) (.slice ads xs.length qs))
        replace G : Hid (Below w.heap.size w (((w53.setCell ⟨w35.heap.size, 0, none⟩ (.bool ns)).setCell ⟨w35.heap.size, 1, none⟩ (.slice ads xs.length qs)))) := bset (bset (G.out) (by omega)) (by omega)
        replace GR : Hid (Below w31.heap.size w31 (((w53.setCell ⟨w35.heap.size, 0, none⟩ (.bool ns)).setCell ⟨w35.heap.size, 1, none⟩ (.slice ads xs.length qs)))) := bset (bset (GR.out) (by omega)) (by omega)
        have sz55 : V55.heap.size = w53.heap.size := by rw [← hW]; simp
        rw [hW] at Za Zb Zg Zx Zy Zh Zl Zu Zv Zs Pa Pb Pg Px Py Ph Pl PN10 G GR
        rw [hW]
        clear hW
        refine hK.out _ _ (fun h => absurd h (by decide)) ?_
        clear hK
        try simp only [Act.put]
        refine wpAnyT_done (by kernel_rfl) ?_ _
        go_wp2_with fail
        go_meet
        exact ⟨_, _, _, _, _, rfl, GR.out, by omega, PN10.out.blk, PN10.out, Zs.out.mono (by omega)⟩
    · skip
      go_simp
      obtain ⟨V56, hW⟩ : ∃ V56, D33.alloc zbox = V56 := ⟨_, rfl⟩
      obtain ⟨kW, sz56⟩ := alloc1 D33 zbox
      rw [hW] at kW sz56
      replace Za := hid (Za.out.now kW)
      replace Zb := hid (Zb.out.now kW)
      replace Zg := hid (Zg.out.now kW)
      replace Zx := hid (Zx.out.now kW)
      replace Zy := hid (Zy.out.now kW)
      replace Zh := hid (Zh.out.now kW)
      replace Zl := hid (Zl.out.now kW)
      replace Pa := hid (Pa.out.step kW)
      replace Pb := hid (Pb.out.step kW)
      replace Pg := hid (Pg.out.step kW)
      replace Px := hid (Px.out.step kW)
      replace Py := hid (Py.out.step kW)
      replace Ph := hid (Ph.out.step kW)
      replace Pl := hid (Pl.out.step kW)
      replace G := hid (below_step G.out kW)
      replace GR := hid (below_step GR.out kW)
      have lz57 := (show Below _ _ _ from kW).size
      have PN10 : Hid (Duo V56 (D33.heap.size) (.bool false) (.slice none 0 0)) := by unfold Hid; rw [← hW]; exact duo_at rfl
      rw [hW]
      clear hW kW
      refine hK.out _ _ (fun _ => ⟨Pa.out.c0, Pa.out.c1, Px.out.c0, Px.out.c1, Pb.out.c0, Pb.out.c1, Py.out.c0, Py.out.c1⟩) ?_
      clear hK
      try simp only [Act.put]
      refine wpAnyT_one (i := 2) (o := { dst := some 78, op := Op.call { callee := Callee.value (Operand.func 18), args := #[Operand.tmp 76, Operand.tmp 77], argTypes := #[24, 24] }, type := 24, pos := "plain.go:50", after := #[{ on := 0, ground := Ground.data }, { on := 1, ground := Ground.data }], guard := none }) (by kernel_rfl) rfl (fun K hK => ?_)
      go_simp
      go_at_call 18
      refine (rmul_z Za.out Zx.out.zi (by decide) (by decide)).mono ?_
      rintro e w58 ⟨r0, rfl, m0, b⟩
      obtain ⟨nu, xu, adu, qu, rfl, -, -, -, -, -⟩ := id m0
      replace Za := hid (Za.out.now b)
      replace Zb := hid (Zb.out.now b)
      replace Zg := hid (Zg.out.now b)
      replace Zx := hid (Zx.out.now b)
      replace Zy := hid (Zy.out.now b)
      replace Zh := hid (Zh.out.now b)
      replace Zl := hid (Zl.out.now b)
      replace Pa := hid (Pa.out.step b)
      replace Pb := hid (Pb.out.step b)
      replace Pg := hid (Pg.out.step b)
      replace Px := hid (Px.out.step b)
      replace Py := hid (Py.out.step b)
      replace Ph := hid (Ph.out.step b)
      replace Pl := hid (Pl.out.step b)
      replace PN10 := hid (PN10.out.step b)
      replace G := hid (below_step G.out b)
      replace GR := hid (below_step GR.out b)
      have lz59 := (show Below _ _ _ from b).size
      have Zu := hid m0
      clear b m0
      refine hK.out _ _ (fun _ => ⟨Pa.out.c0, Pa.out.c1, Px.out.c0, Px.out.c1, Pb.out.c0, Pb.out.c1, Py.out.c0, Py.out.c1⟩) ?_
      clear hK
      refine wpAnyT_one (i := 5) (o := { dst := some 81, op := Op.call { callee := Callee.value (Operand.func 18), args := #[Operand.tmp 79, Operand.tmp 80], argTypes := #[24, 24] }, type := 24, pos := "plain.go:50", after := #[{ on := 3, ground := Ground.data }, { on := 4, ground := Ground.data }, { on := 2, ground := Ground.chain }], guard := none }) (by kernel_rfl) rfl (fun K hK => ?_)
      go_simp
      go_at_call 18
      refine (rmul_z Zb.out Zy.out.zi (by decide) (by decide)).mono ?_
      rintro e w60 ⟨r0, rfl, m0, b⟩
      obtain ⟨nv, xv, adv, qv, rfl, -, -, -, -, -⟩ := id m0
      replace Za := hid (Za.out.now b)
      replace Zb := hid (Zb.out.now b)
      replace Zg := hid (Zg.out.now b)
      replace Zx := hid (Zx.out.now b)
      replace Zy := hid (Zy.out.now b)
      replace Zh := hid (Zh.out.now b)
      replace Zl := hid (Zl.out.now b)
      replace Zu := hid (Zu.out.now b)
      replace Pa := hid (Pa.out.step b)
      replace Pb := hid (Pb.out.step b)
      replace Pg := hid (Pg.out.step b)
      replace Px := hid (Px.out.step b)
      replace Py := hid (Py.out.step b)
      replace Ph := hid (Ph.out.step b)
      replace Pl := hid (Pl.out.step b)
      replace PN10 := hid (PN10.out.step b)
      replace G := hid (below_step G.out b)
      replace GR := hid (below_step GR.out b)
      have lz61 := (show Below _ _ _ from b).size
      have Zv := hid m0
      clear b m0
      refine hK.out _ _ (fun _ => ⟨Pa.out.c0, Pa.out.c1, Px.out.c0, Px.out.c1, Pb.out.c0, Pb.out.c1, Py.out.c0, Py.out.c1⟩) ?_
      clear hK
      refine wpAnyT_one (i := 6) (o := { dst := some 82, op := Op.call { callee := Callee.value (Operand.func 17), args := #[Operand.tmp 78, Operand.tmp 81], argTypes := #[24, 24] }, type := 24, pos := "plain.go:50", after := #[{ on := 2, ground := Ground.data }, { on := 5, ground := Ground.data }, { on := 5, ground := Ground.chain }], guard := none }) (by kernel_rfl) rfl (fun K hK => ?_)
      go_simp
      go_at_call 17
      refine (radd_z Zu.out.zi Zv.out.zi (by decide) (by decide)).mono ?_
      rintro e w62 ⟨r0, rfl, m0, b⟩
      obtain ⟨ns, xs, ads, qs, rfl, -, -, -, -, -⟩ := id m0
      replace Za := hid (Za.out.now b)
      replace Zb := hid (Zb.out.now b)
      replace Zg := hid (Zg.out.now b)
      replace Zx := hid (Zx.out.now b)
      replace Zy := hid (Zy.out.now b)
      replace Zh := hid (Zh.out.now b)
      replace Zl := hid (Zl.out.now b)
      replace Zu := hid (Zu.out.now b)
      replace Zv := hid (Zv.out.now b)
      replace Pa := hid (Pa.out.step b)
      replace Pb := hid (Pb.out.step b)
      replace Pg := hid (Pg.out.step b)
      replace Px := hid (Px.out.step b)
      replace Py := hid (Py.out.step b)
      replace Ph := hid (Ph.out.step b)
      replace Pl := hid (Pl.out.step b)
      replace PN10 := hid (PN10.out.step b)
      replace G := hid (below_step G.out b)
      replace GR := hid (below_step GR.out b)
      have lz63 := (show Below _ _ _ from b).size
      have Zs := hid m0
      clear b m0
      refine hK.out _ _ (fun _ => ⟨Pa.out.c0, Pa.out.c1, Px.out.c0, Px.out.c1, Pb.out.c0, Pb.out.c1, Py.out.c0, Py.out.c1⟩) ?_
      clear hK
      refine wpAnyT_one (i := 8) (o := { dst := none, op := Op.store 24 (Operand.tmp 10) (Operand.tmp 82), type := 0, pos := "plain.go:50", after := #[{ on := 7, ground := Ground.data }, { on := 6, ground := Ground.data }, { on := 6, ground := Ground.chain }, { on := 0, ground := Ground.phase }, { on := 1, ground := Ground.phase }, { on := 2, ground := Ground.phase }, { on := 3, ground := Ground.phase }, { on := 4, ground := Ground.phase }, { on := 5, ground := Ground.phase }, { on := 6, ground := Ground.phase }, { on := 7, ground := Ground.phase }], guard := none }) (by kernel_rfl) rfl (fun K hK => ?_)
      have cN100 := PN10.out.c0
      have cN101 := PN10.out.c1
      have fN100 := PN10.out.fz 0
      have fN101 := PN10.out.fz 1
      go_simp
      clear cN100 cN101 fN100 fN101
      obtain ⟨V64, hW⟩ : ∃ V64, (w62.setCell ⟨D33.heap.size, 0, none⟩ (.bool ns)).setCell ⟨D33.heap.size, 1, none⟩ (.slice ads xs.length qs) = V64 := ⟨_, rfl⟩
      replace Za := hid ((Za.out).wk ((PN10.out).wk (.bool ns) (.slice ads xs.length qs)))
      replace Zb := hid ((Zb.out).wk ((PN10.out).wk (.bool ns) (.slice ads xs.length qs)))
      replace Zg := hid ((Zg.out).box (PN10.out) (.bool ns) (.slice ads xs.length qs))
      replace Zx := hid ((Zx.out).box (PN10.out) (.bool ns) (.slice ads xs.length qs))
      replace Zy := hid ((Zy.out).box (PN10.out) (.bool ns) (.slice ads xs.length qs))
      replace Zh := hid ((Zh.out).box (PN10.out) (.bool ns) (.slice ads xs.length qs))
      replace Zl := hid ((Zl.out).box (PN10.out) (.bool ns) (.slice ads xs.length qs))
      replace Zu := hid ((Zu.out).box (PN10.out) (.bool ns) (.slice ads xs.length qs))
      replace Zv := hid ((Zv.out).box (PN10.out) (.bool ns) (.slice ads xs.length qs))
      replace Zs := hid ((Zs.out).box (PN10.out) (.bool ns) (.slice ads xs.length qs))
      replace Pa := hid ((Pa.out).box (b' := D33.heap.size) (by omega) (.bool ns) (.slice ads xs.length qs))
      replace Pb := hid ((Pb.out).box (b' := D33.heap.size) (by omega) (.bool ns) (.slice ads xs.length qs))
      replace Pg := hid ((Pg.out).box (b' := D33.heap.size) (by omega) (.bool ns) (.slice ads xs.length qs))
      replace Px := hid ((Px.out).box (b' := D33.heap.size) (by omega) (.bool ns) (.slice ads xs.length qs))
      replace Py := hid ((Py.out).box (b' := D33.heap.size) (by omega) (.bool ns) (.slice ads xs.length qs))
      replace Ph := hid ((Ph.out).box (b' := D33.heap.size) (by omega) (.bool ns) (.slice ads xs.length qs))
      replace Pl := hid ((Pl.out).box (b' := D33.heap.size) (by omega) (.bool ns) (.slice ads xs.length qs))
      replace PN10 := hid ((PN10.out).set (.bool ns) (.slice ads xs.length qs))
      replace G : Hid (Below w.heap.size w (((w62.setCell ⟨D33.heap.size, 0, none⟩ (.bool ns)).setCell ⟨D33.heap.size, 1, none⟩ (.slice ads xs.length qs)))) := bset (bset (G.out) (by omega)) (by omega)
      replace GR : Hid (Below w31.heap.size w31 (((w62.setCell ⟨D33.heap.size, 0, none⟩ (.bool ns)).setCell ⟨D33.heap.size, 1, none⟩ (.slice ads xs.length qs)))) := bset (bset (GR.out) (by omega)) (by omega)
      have sz64 : V64.heap.size = w62.heap.size := by rw [← hW]; simp
      rw [hW] at Za Zb Zg Zx Zy Zh Zl Zu Zv Zs Pa Pb Pg Px Py Ph Pl PN10 G GR
      rw [hW]
      clear hW
      refine hK.out _ _ (fun h => absurd h (by decide)) ?_
      clear hK
      try simp only [Act.put]
      refine wpAnyT_done (by kernel_rfl) ?_ _
      go_wp2_with fail
      go_meet
      exact ⟨_, _, _, _, _, rfl, GR.out, by omega, PN10.out.blk, PN10.out, Zs.out.mono (by omega)⟩
  case rest =>
  obtain ⟨bks, ns, xs, ads, qs, rfl, b, ges, lts, p, m⟩ := hcut
  replace Za := hid (Za.out.now b)
  replace Zb := hid (Zb.out.now b)
  replace Zg := hid (Zg.out.now b)
  replace Zx := hid (Zx.out.now b)
  replace Zy := hid (Zy.out.now b)
  replace Zh := hid (Zh.out.now b)
  replace Zl := hid (Zl.out.now b)
  replace Pa := hid (Pa.out.step b)
  replace Pb := hid (Pb.out.step b)
  replace Pg := hid (Pg.out.step b)
  replace Px := hid (Px.out.step b)
  replace Py := hid (Py.out.step b)
  replace Ph := hid (Ph.out.step b)
  replace Pl := hid (Pl.out.step b)
  replace G := hid (below_step G.out b)
  have lz66 := (show Below _ _ _ from b).size
  have Zs := hid m
  have Ps := hid p
  clear b p m
  generalize wc = C66 at *
  have ca0 := Pa.out.c0
  have ca1 := Pa.out.c1
  have cb0 := Pb.out.c0
  have cb1 := Pb.out.c1
  go_wp2_with fail
  clear ca0 ca1 cb0 cb1
  refine (rmul_z Za.out Zb.out (by decide) (by decide)).mono ?_
  rintro e w67 ⟨r0, rfl, m0, b⟩
  obtain ⟨nt, xt, adt, qt, rfl, -, -, -, -, -⟩ := id m0
  replace Za := hid (Za.out.now b)
  replace Zb := hid (Zb.out.now b)
  replace Zg := hid (Zg.out.now b)
  replace Zx := hid (Zx.out.now b)
  replace Zy := hid (Zy.out.now b)
  replace Zh := hid (Zh.out.now b)
  replace Zl := hid (Zl.out.now b)
  replace Zs := hid (Zs.out.now b)
  replace Pa := hid (Pa.out.step b)
  replace Pb := hid (Pb.out.step b)
  replace Pg := hid (Pg.out.step b)
  replace Px := hid (Px.out.step b)
  replace Py := hid (Py.out.step b)
  replace Ph := hid (Ph.out.step b)
  replace Pl := hid (Pl.out.step b)
  replace Ps := hid (Ps.out.step b)
  replace G := hid (below_step G.out b)
  have lz68 := (show Below _ _ _ from b).size
  have Zt := hid m0
  clear b m0
  go_wp2_with fail
  refine (rabs_z Zt.out.zi (by decide)).mono ?_
  rintro e w69 ⟨r0, rfl, m0, b⟩
  obtain ⟨np, xp, adp, qp, rfl, -, -, -, -, -⟩ := id m0
  replace Za := hid (Za.out.now b)
  replace Zb := hid (Zb.out.now b)
  replace Zg := hid (Zg.out.now b)
  replace Zx := hid (Zx.out.now b)
  replace Zy := hid (Zy.out.now b)
  replace Zh := hid (Zh.out.now b)
  replace Zl := hid (Zl.out.now b)
  replace Zs := hid (Zs.out.now b)
  replace Zt := hid (Zt.out.now b)
  replace Pa := hid (Pa.out.step b)
  replace Pb := hid (Pb.out.step b)
  replace Pg := hid (Pg.out.step b)
  replace Px := hid (Px.out.step b)
  replace Py := hid (Py.out.step b)
  replace Ph := hid (Ph.out.step b)
  replace Pl := hid (Pl.out.step b)
  replace Ps := hid (Ps.out.step b)
  replace G := hid (below_step G.out b)
  have lz70 := (show Below _ _ _ from b).size
  have Zp := hid m0
  clear b m0
  obtain ⟨V71, hW⟩ : ∃ V71, w69.alloc (duo (.bool np) (.slice adp xp.length qp)) = V71 := ⟨_, rfl⟩
  obtain ⟨kW, sz71⟩ := alloc1 w69 (duo (.bool np) (.slice adp xp.length qp))
  rw [hW] at kW sz71
  replace Za := hid (Za.out.now kW)
  replace Zb := hid (Zb.out.now kW)
  replace Zg := hid (Zg.out.now kW)
  replace Zx := hid (Zx.out.now kW)
  replace Zy := hid (Zy.out.now kW)
  replace Zh := hid (Zh.out.now kW)
  replace Zl := hid (Zl.out.now kW)
  replace Zs := hid (Zs.out.now kW)
  replace Zt := hid (Zt.out.now kW)
  replace Zp := hid (Zp.out.now kW)
  replace Pa := hid (Pa.out.step kW)
  replace Pb := hid (Pb.out.step kW)
  replace Pg := hid (Pg.out.step kW)
  replace Px := hid (Px.out.step kW)
  replace Py := hid (Py.out.step kW)
  replace Ph := hid (Ph.out.step kW)
  replace Pl := hid (Pl.out.step kW)
  replace Ps := hid (Ps.out.step kW)
  replace G := hid (below_step G.out kW)
  have lz72 := (show Below _ _ _ from kW).size
  have Pp : Hid (Duo V71 (w69.heap.size) (.bool np) (.slice adp xp.length qp)) := by unfold Hid; rw [← hW]; exact duo_at (by simp)
  clear kW
  clear Zt
  have EW := hid hW
  clear hW
  go_wp2_with fail
  rw [EW.out]
  clear EW
  refine wp_region_tail (fun w' => w'.cell? ⟨bks, 0, none⟩ = some (.bool ns) ∧ w'.cell? ⟨bks, 1, none⟩ = some (.slice ads xs.length qs) ∧ w'.cell? ⟨w3.heap.size, 0, none⟩ = some (.bool ng) ∧ w'.cell? ⟨w3.heap.size, 1, none⟩ = some (.slice adg xg.length qg) ∧ w'.cell? ⟨w11.heap.size, 0, none⟩ = some (.bool nl) ∧ w'.cell? ⟨w11.heap.size, 1, none⟩ = some (.slice adl xl.length ql) ∧ w'.cell? ⟨w69.heap.size, 0, none⟩ = some (.bool np) ∧ w'.cell? ⟨w69.heap.size, 1, none⟩ = some (.slice adp xp.length qp)) 11 (by kernel_rfl) ?_
  obtain ⟨D73, hD⟩ : ∃ D73, V71.drew = D73 := ⟨_, rfl⟩
  have b : Below V71.heap.size V71 D73 := by rw [← hD]; exact (Below.refl _ _).drew
  rw [hD]
  clear hD
  replace Za := hid (Za.out.now b)
  replace Zb := hid (Zb.out.now b)
  replace Zg := hid (Zg.out.now b)
  replace Zx := hid (Zx.out.now b)
  replace Zy := hid (Zy.out.now b)
  replace Zh := hid (Zh.out.now b)
  replace Zl := hid (Zl.out.now b)
  replace Zs := hid (Zs.out.now b)
  replace Zp := hid (Zp.out.now b)
  replace Pa := hid (Pa.out.step b)
  replace Pb := hid (Pb.out.step b)
  replace Pg := hid (Pg.out.step b)
  replace Px := hid (Px.out.step b)
  replace Py := hid (Py.out.step b)
  replace Ph := hid (Ph.out.step b)
  replace Pl := hid (Pl.out.step b)
  replace Ps := hid (Ps.out.step b)
  replace Pp := hid (Pp.out.step b)
  replace G := hid (below_step G.out b)
  have lz74 := (show Below _ _ _ from b).size
  clear b
  refine wpAnyT_take (i := 0) (oi := { dst := some 87, op := Op.load 24 (Operand.tmp 10), type := 24, pos := "plain.go:52", after := #[], guard := none }) (v := (.agg #[(.bool ns), (.slice ads xs.length qs)])) rfl (by kernel_rfl) (fun _ _ _ h => h) (Or.inl ⟨by rfl, ?_⟩) ⟨Ps.out.c0, Ps.out.c1, Pg.out.c0, Pg.out.c1, Pl.out.c0, Pl.out.c1, Pp.out.c0, Pp.out.c1⟩ ?_
  · intro w hSw
    (try dsimp only at hSw)
    go_simp
  simp only [Act.put, List.setIfInBounds_toArray, List.set_cons_zero, List.set_cons_succ]
  refine wpAnyT_take (i := 1) (oi := { dst := some 88, op := Op.load 24 (Operand.tmp 5), type := 24, pos := "plain.go:52", after := #[], guard := none }) (v := (.agg #[(.bool ng), (.slice adg xg.length qg)])) rfl (by kernel_rfl) (fun _ _ _ h => h) (Or.inl ⟨by rfl, ?_⟩) ⟨Ps.out.c0, Ps.out.c1, Pg.out.c0, Pg.out.c1, Pl.out.c0, Pl.out.c1, Pp.out.c0, Pp.out.c1⟩ ?_
  · intro w hSw
    (try dsimp only at hSw)
    go_simp
  simp only [Act.put, List.setIfInBounds_toArray, List.set_cons_zero, List.set_cons_succ]
  refine wpAnyT_one (i := 2) (o := { dst := some 89, op := Op.call { callee := Callee.value (Operand.func 20), args := #[Operand.tmp 87, Operand.tmp 88], argTypes := #[24, 24] }, type := 4, pos := "plain.go:52", after := #[{ on := 0, ground := Ground.data }, { on := 1, ground := Ground.data }], guard := none }) (by kernel_rfl) rfl (fun K hK => ?_)
  go_simp
  go_at_call 20
  refine (equal6 (k := 8388608) (Zs.out.zi.more (by decide)) (Zg.out.zi.more (by decide)) (by decide) HV.out.s).mono ?_
  rintro e w75 ⟨rfl, b⟩
  replace Za := hid (Za.out.now b)
  replace Zb := hid (Zb.out.now b)
  replace Zg := hid (Zg.out.now b)
  replace Zx := hid (Zx.out.now b)
  replace Zy := hid (Zy.out.now b)
  replace Zh := hid (Zh.out.now b)
  replace Zl := hid (Zl.out.now b)
  replace Zs := hid (Zs.out.now b)
  replace Zp := hid (Zp.out.now b)
  replace Pa := hid (Pa.out.step b)
  replace Pb := hid (Pb.out.step b)
  replace Pg := hid (Pg.out.step b)
  replace Px := hid (Px.out.step b)
  replace Py := hid (Py.out.step b)
  replace Ph := hid (Ph.out.step b)
  replace Pl := hid (Pl.out.step b)
  replace Ps := hid (Ps.out.step b)
  replace Pp := hid (Pp.out.step b)
  replace G := hid (below_step G.out b)
  have lz76 := (show Below _ _ _ from b).size
  clear b 
  refine hK.out _ _ (fun _ => ⟨Ps.out.c0, Ps.out.c1, Pg.out.c0, Pg.out.c1, Pl.out.c0, Pl.out.c1, Pp.out.c0, Pp.out.c1⟩) ?_
  clear hK
  refine wpAnyT_take (i := 3) (oi := { dst := some 90, op := Op.unOp UnOp.not 4 (Operand.tmp 89), type := 4, pos := "plain.go:52", after := #[{ on := 2, ground := Ground.data }], guard := none }) (v := (.bool false)) rfl (by kernel_rfl) (fun _ _ _ h => h) (Or.inl ⟨by rfl, ?_⟩) ⟨Ps.out.c0, Ps.out.c1, Pg.out.c0, Pg.out.c1, Pl.out.c0, Pl.out.c1, Pp.out.c0, Pp.out.c1⟩ ?_
  · intro w hSw
    (try dsimp only at hSw)
    go_simp
  simp only [Act.put, List.setIfInBounds_toArray, List.set_cons_zero, List.set_cons_succ]
  refine wpAnyT_take (i := 4) (oi := { dst := some 91, op := Op.move (Operand.tmp 90), type := 4, pos := "plain.go:52", after := #[{ on := 3, ground := Ground.data }, { on := 2, ground := Ground.chain }], guard := none }) (v := (.bool false)) rfl (by kernel_rfl) (fun _ _ _ h => h) (Or.inl ⟨by rfl, ?_⟩) ⟨Ps.out.c0, Ps.out.c1, Pg.out.c0, Pg.out.c1, Pl.out.c0, Pl.out.c1, Pp.out.c0, Pp.out.c1⟩ ?_
  · intro w hSw
    (try dsimp only at hSw)
    go_simp
  simp only [Act.put, List.setIfInBounds_toArray, List.set_cons_zero, List.set_cons_succ]
  refine wpAnyT_take (i := 5) (oi := { dst := some 92, op := Op.load 24 (Operand.tmp 5), type := 24, pos := "plain.go:52", after := #[{ on := 4, ground := Ground.guard }], guard := some (4, false) }) (v := (.agg #[(.bool ng), (.slice adg xg.length qg)])) rfl (by kernel_rfl) (fun _ _ _ h => h) (Or.inl ⟨by rfl, ?_⟩) ⟨Ps.out.c0, Ps.out.c1, Pg.out.c0, Pg.out.c1, Pl.out.c0, Pl.out.c1, Pp.out.c0, Pp.out.c1⟩ ?_
  · intro w hSw
    (try dsimp only at hSw)
    go_simp
  simp only [Act.put, List.setIfInBounds_toArray, List.set_cons_zero, List.set_cons_succ]
  refine wpAnyT_take (i := 6) (oi := { dst := some 93, op := Op.load 24 (Operand.tmp 9), type := 24, pos := "plain.go:52", after := #[{ on := 4, ground := Ground.guard }], guard := some (4, false) }) (v := (.agg #[(.bool nl), (.slice adl xl.length ql)])) rfl (by kernel_rfl) (fun _ _ _ h => h) (Or.inl ⟨by rfl, ?_⟩) ⟨Ps.out.c0, Ps.out.c1, Pg.out.c0, Pg.out.c1, Pl.out.c0, Pl.out.c1, Pp.out.c0, Pp.out.c1⟩ ?_
  · intro w hSw
    (try dsimp only at hSw)
    go_simp
  simp only [Act.put, List.setIfInBounds_toArray, List.set_cons_zero, List.set_cons_succ]
  refine wpAnyT_take (i := 8) (oi := { dst := some 95, op := Op.load 24 (Operand.tmp 11), type := 24, pos := "plain.go:52", after := #[{ on := 4, ground := Ground.guard }], guard := some (4, false) }) (v := (.agg #[(.bool np), (.slice adp xp.length qp)])) rfl (by kernel_rfl) (fun _ _ _ h => h) (Or.inl ⟨by rfl, ?_⟩) ⟨Ps.out.c0, Ps.out.c1, Pg.out.c0, Pg.out.c1, Pl.out.c0, Pl.out.c1, Pp.out.c0, Pp.out.c1⟩ ?_
  · intro w hSw
    (try dsimp only at hSw)
    go_simp
  simp only [Act.put, List.setIfInBounds_toArray, List.set_cons_zero, List.set_cons_succ]
  refine wpAnyT_one (i := 7) (o := { dst := some 94, op := Op.call { callee := Callee.value (Operand.func 18), args := #[Operand.tmp 92, Operand.tmp 93], argTypes := #[24, 24] }, type := 24, pos := "plain.go:52", after := #[{ on := 5, ground := Ground.data }, { on := 6, ground := Ground.data }, { on := 4, ground := Ground.chain }, { on := 4, ground := Ground.guard }], guard := some (4, false) }) (by kernel_rfl) rfl (fun K hK => ?_)
  go_simp
  go_at_call 18
  refine (rmul_z Zg.out.zi Zl.out.zi (by decide) (by decide)).mono ?_
  rintro e w77 ⟨r0, rfl, m0, b⟩
  obtain ⟨no, xo, ado, qo, rfl, -, -, -, -, -⟩ := id m0
  replace Za := hid (Za.out.now b)
  replace Zb := hid (Zb.out.now b)
  replace Zg := hid (Zg.out.now b)
  replace Zx := hid (Zx.out.now b)
  replace Zy := hid (Zy.out.now b)
  replace Zh := hid (Zh.out.now b)
  replace Zl := hid (Zl.out.now b)
  replace Zs := hid (Zs.out.now b)
  replace Zp := hid (Zp.out.now b)
  replace Pa := hid (Pa.out.step b)
  replace Pb := hid (Pb.out.step b)
  replace Pg := hid (Pg.out.step b)
  replace Px := hid (Px.out.step b)
  replace Py := hid (Py.out.step b)
  replace Ph := hid (Ph.out.step b)
  replace Pl := hid (Pl.out.step b)
  replace Ps := hid (Ps.out.step b)
  replace Pp := hid (Pp.out.step b)
  replace G := hid (below_step G.out b)
  have lz78 := (show Below _ _ _ from b).size
  have Zo := hid m0
  clear b m0
  refine hK.out _ _ (fun _ => ⟨Ps.out.c0, Ps.out.c1, Pg.out.c0, Pg.out.c1, Pl.out.c0, Pl.out.c1, Pp.out.c0, Pp.out.c1⟩) ?_
  clear hK
  refine wpAnyT_one (i := 9) (o := { dst := some 96, op := Op.call { callee := Callee.value (Operand.func 20), args := #[Operand.tmp 94, Operand.tmp 95], argTypes := #[24, 24] }, type := 4, pos := "plain.go:52", after := #[{ on := 7, ground := Ground.data }, { on := 8, ground := Ground.data }, { on := 7, ground := Ground.chain }, { on := 4, ground := Ground.guard }], guard := some (4, false) }) (by kernel_rfl) rfl (fun K hK => ?_)
  go_simp
  go_at_call 20
  refine (equal6 (k := 8388608) (Zo.out.zi.more (by decide)) (Zp.out.zi.more (by decide)) (by decide) PP.out).mono ?_
  rintro e w79 ⟨rfl, b⟩
  replace Za := hid (Za.out.now b)
  replace Zb := hid (Zb.out.now b)
  replace Zg := hid (Zg.out.now b)
  replace Zx := hid (Zx.out.now b)
  replace Zy := hid (Zy.out.now b)
  replace Zh := hid (Zh.out.now b)
  replace Zl := hid (Zl.out.now b)
  replace Zs := hid (Zs.out.now b)
  replace Zp := hid (Zp.out.now b)
  replace Zo := hid (Zo.out.now b)
  replace Pa := hid (Pa.out.step b)
  replace Pb := hid (Pb.out.step b)
  replace Pg := hid (Pg.out.step b)
  replace Px := hid (Px.out.step b)
  replace Py := hid (Py.out.step b)
  replace Ph := hid (Ph.out.step b)
  replace Pl := hid (Pl.out.step b)
  replace Ps := hid (Ps.out.step b)
  replace Pp := hid (Pp.out.step b)
  replace G := hid (below_step G.out b)
  have lz80 := (show Below _ _ _ from b).size
  clear b 
  refine hK.out _ _ (fun _ => ⟨Ps.out.c0, Ps.out.c1, Pg.out.c0, Pg.out.c1, Pl.out.c0, Pl.out.c1, Pp.out.c0, Pp.out.c1⟩) ?_
  clear hK
  refine wpAnyT_take (i := 10) (oi := { dst := some 97, op := Op.unOp UnOp.not 4 (Operand.tmp 96), type := 4, pos := "plain.go:52", after := #[{ on := 9, ground := Ground.data }, { on := 4, ground := Ground.guard }], guard := some (4, false) }) (v := (.bool false)) rfl (by kernel_rfl) (fun _ _ _ h => h) (Or.inl ⟨by rfl, ?_⟩) ⟨Ps.out.c0, Ps.out.c1, Pg.out.c0, Pg.out.c1, Pl.out.c0, Pl.out.c1, Pp.out.c0, Pp.out.c1⟩ ?_
  · intro w hSw
    (try dsimp only at hSw)
    go_simp
  simp only [Act.put, List.setIfInBounds_toArray, List.set_cons_zero, List.set_cons_succ]
  refine wpAnyT_one (i := 11) (o := { dst := some 98, op := Op.pick (Operand.tmp 91) (Operand.const (Value.bool true)) (Operand.tmp 97), type := 4, pos := "plain.go:52", after := #[{ on := 4, ground := Ground.data }, { on := 10, ground := Ground.data }], guard := none }) (by kernel_rfl) rfl (fun K hK => ?_)
  go_simp
  refine hK.out _ _ (fun h => absurd h (by decide)) ?_
  clear hK
  try simp only [Act.put]
  refine wpAnyT_done (by kernel_rfl) ?_ _
  clear Zo
  clear Zs
  clear Zp
  clear Ps
  clear Pp
  have bB : (cmpI B 0 == 0) = false := by rw [beq_eq_false_iff_ne]; exact fun e => HB.out (cmpI_zero e)
  have HSB : Hid (∀ w' v, Zi w' v B 1048576 → _) := fun (w' : World) (v : Value) (h : Zi w' v B 1048576) => rsign_z h (by decide)
  generalize cmpI B 0 = SB at *
  have e0 : ((0 : Int) != 0) = false := rfl
  have e1 : ((0 : Int) == 0) = true := rfl
  have cb0 := Pb.out.c0
  have cb1 := Pb.out.c1
  go_wp2_with fail
  clear cb0 cb1
  refine (HSB.out _ _ Zb.out).mono ?_
  rintro e w81 ⟨rfl, b⟩
  replace Za := hid (Za.out.now b)
  replace Zb := hid (Zb.out.now b)
  replace Zg := hid (Zg.out.now b)
  replace Zx := hid (Zx.out.now b)
  replace Zy := hid (Zy.out.now b)
  replace Zh := hid (Zh.out.now b)
  replace Zl := hid (Zl.out.now b)
  replace Pa := hid (Pa.out.step b)
  replace Pb := hid (Pb.out.step b)
  replace Pg := hid (Pg.out.step b)
  replace Px := hid (Px.out.step b)
  replace Py := hid (Py.out.step b)
  replace Ph := hid (Ph.out.step b)
  replace Pl := hid (Pl.out.step b)
  replace G := hid (below_step G.out b)
  have lz82 := (show Below _ _ _ from b).size
  clear b 
  have cb0 := Pb.out.c0
  have cb1 := Pb.out.c1
  have cg0 := Pg.out.c0
  have cg1 := Pg.out.c1
  go_wp2_with fail
  clear cb0 cb1 cg0 cg1
  refine (rexact_yes Zb.out Zg.out.zi XV.out.1 (by decide) (by decide) XV.out.2.1).mono ?_
  rintro e w83 ⟨r0, rfl, m0, b⟩
  obtain ⟨nr, xr, adr, qr, rfl, -, -, -, -, -⟩ := id m0
  replace Za := hid (Za.out.now b)
  replace Zb := hid (Zb.out.now b)
  replace Zg := hid (Zg.out.now b)
  replace Zx := hid (Zx.out.now b)
  replace Zy := hid (Zy.out.now b)
  replace Zh := hid (Zh.out.now b)
  replace Zl := hid (Zl.out.now b)
  replace Pa := hid (Pa.out.step b)
  replace Pb := hid (Pb.out.step b)
  replace Pg := hid (Pg.out.step b)
  replace Px := hid (Px.out.step b)
  replace Py := hid (Py.out.step b)
  replace Ph := hid (Ph.out.step b)
  replace Pl := hid (Pl.out.step b)
  replace G := hid (below_step G.out b)
  have lz84 := (show Below _ _ _ from b).size
  have Zr := hid m0
  clear b m0
  obtain ⟨V85, hW⟩ : ∃ V85, w83.alloc (duo (.bool nr) (.slice adr xr.length qr)) = V85 := ⟨_, rfl⟩
  obtain ⟨kW, sz85⟩ := alloc1 w83 (duo (.bool nr) (.slice adr xr.length qr))
  rw [hW] at kW sz85
  replace Za := hid (Za.out.now kW)
  replace Zb := hid (Zb.out.now kW)
  replace Zg := hid (Zg.out.now kW)
  replace Zx := hid (Zx.out.now kW)
  replace Zy := hid (Zy.out.now kW)
  replace Zh := hid (Zh.out.now kW)
  replace Zl := hid (Zl.out.now kW)
  replace Zr := hid (Zr.out.now kW)
  replace Pa := hid (Pa.out.step kW)
  replace Pb := hid (Pb.out.step kW)
  replace Pg := hid (Pg.out.step kW)
  replace Px := hid (Px.out.step kW)
  replace Py := hid (Py.out.step kW)
  replace Ph := hid (Ph.out.step kW)
  replace Pl := hid (Pl.out.step kW)
  replace G := hid (below_step G.out kW)
  have lz86 := (show Below _ _ _ from kW).size
  have Pr : Hid (Duo V85 (w83.heap.size) (.bool nr) (.slice adr xr.length qr)) := by unfold Hid; rw [← hW]; exact duo_at (by simp)
  clear kW
  have cx0 := Px.out.c0
  have cx1 := Px.out.c1
  have cr0 := Pr.out.c0
  have cr1 := Pr.out.c1
  rw [← hW] at cx0 cx1 cr0 cr1
  have EW := hid hW
  clear hW
  go_wp2_with fail
  rw [EW.out]
  clear EW
  clear cx0 cx1 cr0 cr1
  refine (within6 Zx.out.zi Zr.out.zi (by decide) XV.out.2.2).mono ?_
  rintro e w87 ⟨rfl, b⟩
  replace Za := hid (Za.out.now b)
  replace Zb := hid (Zb.out.now b)
  replace Zg := hid (Zg.out.now b)
  replace Zx := hid (Zx.out.now b)
  replace Zy := hid (Zy.out.now b)
  replace Zh := hid (Zh.out.now b)
  replace Zl := hid (Zl.out.now b)
  replace Zr := hid (Zr.out.now b)
  replace Pa := hid (Pa.out.step b)
  replace Pb := hid (Pb.out.step b)
  replace Pg := hid (Pg.out.step b)
  replace Px := hid (Px.out.step b)
  replace Py := hid (Py.out.step b)
  replace Ph := hid (Ph.out.step b)
  replace Pl := hid (Pl.out.step b)
  replace Pr := hid (Pr.out.step b)
  replace G := hid (below_step G.out b)
  have lz88 := (show Below _ _ _ from b).size
  clear b 
  have bA : (cmpI A 0 == 0) = false := by rw [beq_eq_false_iff_ne]; exact fun e => HA.out (cmpI_zero e)
  have HSA : Hid (∀ w' v, Zi w' v A 1048576 → _) := fun (w' : World) (v : Value) (h : Zi w' v A 1048576) => rsign_z h (by decide)
  generalize cmpI A 0 = SA at *
  have ca0 := Pa.out.c0
  have ca1 := Pa.out.c1
  go_wp2_with fail
  clear ca0 ca1
  refine (HSA.out _ _ Za.out).mono ?_
  rintro e w89 ⟨rfl, b⟩
  replace Za := hid (Za.out.now b)
  replace Zb := hid (Zb.out.now b)
  replace Zg := hid (Zg.out.now b)
  replace Zx := hid (Zx.out.now b)
  replace Zy := hid (Zy.out.now b)
  replace Zh := hid (Zh.out.now b)
  replace Zl := hid (Zl.out.now b)
  replace Zr := hid (Zr.out.now b)
  replace Pa := hid (Pa.out.step b)
  replace Pb := hid (Pb.out.step b)
  replace Pg := hid (Pg.out.step b)
  replace Px := hid (Px.out.step b)
  replace Py := hid (Py.out.step b)
  replace Ph := hid (Ph.out.step b)
  replace Pl := hid (Pl.out.step b)
  replace Pr := hid (Pr.out.step b)
  replace G := hid (below_step G.out b)
  have lz90 := (show Below _ _ _ from b).size
  clear b 
  have ca0 := Pa.out.c0
  have ca1 := Pa.out.c1
  have cg0 := Pg.out.c0
  have cg1 := Pg.out.c1
  go_wp2_with fail
  clear ca0 ca1 cg0 cg1
  refine (rexact_yes Za.out Zg.out.zi XV.out.1 (by decide) (by decide) YV.out.1).mono ?_
  rintro e w91 ⟨r0, rfl, m0, b⟩
  obtain ⟨nt, xt, adt, qt, rfl, -, -, -, -, -⟩ := id m0
  replace Za := hid (Za.out.now b)
  replace Zb := hid (Zb.out.now b)
  replace Zg := hid (Zg.out.now b)
  replace Zx := hid (Zx.out.now b)
  replace Zy := hid (Zy.out.now b)
  replace Zh := hid (Zh.out.now b)
  replace Zl := hid (Zl.out.now b)
  replace Zr := hid (Zr.out.now b)
  replace Pa := hid (Pa.out.step b)
  replace Pb := hid (Pb.out.step b)
  replace Pg := hid (Pg.out.step b)
  replace Px := hid (Px.out.step b)
  replace Py := hid (Py.out.step b)
  replace Ph := hid (Ph.out.step b)
  replace Pl := hid (Pl.out.step b)
  replace Pr := hid (Pr.out.step b)
  replace G := hid (below_step G.out b)
  have lz92 := (show Below _ _ _ from b).size
  have Zt := hid m0
  clear b m0
  obtain ⟨V93, hW⟩ : ∃ V93, w91.alloc (duo (.bool nt) (.slice adt xt.length qt)) = V93 := ⟨_, rfl⟩
  obtain ⟨kW, sz93⟩ := alloc1 w91 (duo (.bool nt) (.slice adt xt.length qt))
  rw [hW] at kW sz93
  replace Za := hid (Za.out.now kW)
  replace Zb := hid (Zb.out.now kW)
  replace Zg := hid (Zg.out.now kW)
  replace Zx := hid (Zx.out.now kW)
  replace Zy := hid (Zy.out.now kW)
  replace Zh := hid (Zh.out.now kW)
  replace Zl := hid (Zl.out.now kW)
  replace Zr := hid (Zr.out.now kW)
  replace Zt := hid (Zt.out.now kW)
  replace Pa := hid (Pa.out.step kW)
  replace Pb := hid (Pb.out.step kW)
  replace Pg := hid (Pg.out.step kW)
  replace Px := hid (Px.out.step kW)
  replace Py := hid (Py.out.step kW)
  replace Ph := hid (Ph.out.step kW)
  replace Pl := hid (Pl.out.step kW)
  replace Pr := hid (Pr.out.step kW)
  replace G := hid (below_step G.out kW)
  have lz94 := (show Below _ _ _ from kW).size
  have Pt : Hid (Duo V93 (w91.heap.size) (.bool nt) (.slice adt xt.length qt)) := by unfold Hid; rw [← hW]; exact duo_at (by simp)
  clear kW
  have cy : cmpI (zy.natAbs : Int) ((A.tdiv zg).natAbs : Int) ≤ 0 := by
    have := YV.out.2
    unfold cmpI
    (repeat' split) <;> omega
  have HCY : Hid (∀ w' v u, Zi w' v zy 1048576 → Zi w' u (A.tdiv zg) 1048576 → _) := fun (w' : World) (v u : Value) (h : Zi w' v zy 1048576) (h' : Zi w' u (A.tdiv zg) 1048576) => rcmpAbs_z h h' (by decide) (by decide)
  generalize cmpI (zy.natAbs : Int) ((A.tdiv zg).natAbs : Int) = CY at *
  have cy0 := Py.out.c0
  have cy1 := Py.out.c1
  have ct0 := Pt.out.c0
  have ct1 := Pt.out.c1
  rw [← hW] at cy0 cy1 ct0 ct1
  have EW := hid hW
  clear hW
  go_wp2_with fail
  rw [EW.out]
  clear EW
  clear cy0 cy1 ct0 ct1
  refine (HCY.out _ _ _ Zy.out.zi Zt.out.zi).mono ?_
  rintro e w95 ⟨rfl, b⟩
  replace Za := hid (Za.out.now b)
  replace Zb := hid (Zb.out.now b)
  replace Zg := hid (Zg.out.now b)
  replace Zx := hid (Zx.out.now b)
  replace Zy := hid (Zy.out.now b)
  replace Zh := hid (Zh.out.now b)
  replace Zl := hid (Zl.out.now b)
  replace Zr := hid (Zr.out.now b)
  replace Zt := hid (Zt.out.now b)
  replace Pa := hid (Pa.out.step b)
  replace Pb := hid (Pb.out.step b)
  replace Pg := hid (Pg.out.step b)
  replace Px := hid (Px.out.step b)
  replace Py := hid (Py.out.step b)
  replace Ph := hid (Ph.out.step b)
  replace Pl := hid (Pl.out.step b)
  replace Pr := hid (Pr.out.step b)
  replace Pt := hid (Pt.out.step b)
  replace G := hid (below_step G.out b)
  have lz96 := (show Below _ _ _ from b).size
  clear b 
  go_wp2
  go_ret
  exact ⟨rfl, G.out⟩
end Go.Proofs.Ythdnnphpjdchnaa
