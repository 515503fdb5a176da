/-
  Inverts6: BezoutInverts.
-/
import Derived.Test.YthdnnphpjdchnaaQInv6ToTailA
import Derived.Test.YthdnnphpjdchnaaQGcd6
import Derived.Test.YthdnnphpjdchnaaQR5Add
namespace Go.Proofs.Ythdnnphpjdchnaa
open Go.RowKit
set_option linter.unusedVariables false

theorem zc_nil (w : World) (k : Nat) : Zc w (.agg #[.bool false, .slice none 0 0]) 0 k := (zm_nil 0 w k).zc
set_option maxHeartbeats 25600000 in
set_option maxRecDepth 100000 in
theorem inverts_zero {w : World} {va vb : Value} {A B : Int} (ha : Zi w va A 1048576) (hb : Zi w vb B 1048576) (hB : B = 0) :
    Calls Try.prog 5 #[va, vb] w fun e w' => e = .returned (.bool true) ∧ Below w.heap.size w w' := by
  have HB := hid hB
  clear hB
  have za0 := ha
  obtain ⟨na, xa, ada, ca, rfl, -, -, -⟩ := ha
  have zb0 := hb
  obtain ⟨nb, xb, adb, cb, rfl, -, -, -⟩ := hb
  obtain ⟨W0, hW⟩ : ∃ W0, (w.alloc (duo (.bool na) (.slice ada xa.length ca))).alloc (duo (.bool nb) (.slice adb xb.length cb)) = W0 := ⟨_, rfl⟩
  obtain ⟨b0, sz0⟩ := alloc2 w (duo (.bool na) (.slice ada xa.length ca)) (duo (.bool nb) (.slice adb xb.length cb))
  rw [hW] at b0 sz0
  have Pa : Hid (Duo W0 (w.heap.size) (.bool na) (.slice ada xa.length ca)) := by unfold Hid; rw [← hW]; exact duo_late (duo_at (by simp)) _
  have Pb : Hid (Duo W0 (w.heap.size + 1) (.bool nb) (.slice adb xb.length cb)) := by unfold Hid; rw [← hW]; exact duo_at (by simp)
  have Za := hid (za0.now b0)
  clear za0
  have Zb := hid (zb0.now b0)
  clear zb0
  have G := hid b0
  clear b0
  have EW := hid hW
  clear hW
  go_enter Try.func5, Try.ntmps5
  skip
  go_wp2_with fail
  rw [EW.out]
  clear EW
  refine (wakes6 _).mono ?_
  rintro e w1 ⟨rfl, b⟩
  replace Za := hid (Za.out.now b)
  replace Zb := hid (Zb.out.now b)
  replace Pa := hid (Pa.out.step b)
  replace Pb := hid (Pb.out.step b)
  replace G := hid (below_step G.out b)
  have lz2 := (show Below _ _ _ from b).size
  clear b 
  have ca0 := Pa.out.c0
  have ca1 := Pa.out.c1
  have cb0 := Pb.out.c0
  have cb1 := Pb.out.c1
  go_wp2_with fail
  clear ca0 ca1 cb0 cb1
  refine (inverse_zero Za.out Zb.out (by decide) (by decide) HB.out).mono ?_
  rintro e w3 ⟨r0, rfl, m0, b⟩
  obtain ⟨nj, xj, adj, qj, rfl, -, -, -, -, -⟩ := id m0
  replace Za := hid (Za.out.now b)
  replace Zb := hid (Zb.out.now b)
  replace Pa := hid (Pa.out.step b)
  replace Pb := hid (Pb.out.step b)
  replace G := hid (below_step G.out b)
  have lz4 := (show Below _ _ _ from b).size
  have Zj := hid m0
  clear b m0
  obtain ⟨V5, hW⟩ : ∃ V5, w3.alloc (duo (.bool nj) (.slice adj xj.length qj)) = V5 := ⟨_, rfl⟩
  obtain ⟨kW, sz5⟩ := alloc1 w3 (duo (.bool nj) (.slice adj xj.length qj))
  rw [hW] at kW sz5
  replace Za := hid (Za.out.now kW)
  replace Zb := hid (Zb.out.now kW)
  replace Zj := hid (Zj.out.now kW)
  replace Pa := hid (Pa.out.step kW)
  replace Pb := hid (Pb.out.step kW)
  replace G := hid (below_step G.out kW)
  have lz6 := (show Below _ _ _ from kW).size
  have Pj : Hid (Duo V5 (w3.heap.size) (.bool nj) (.slice adj xj.length qj)) := by unfold Hid; rw [← hW]; exact duo_at (by simp)
  clear kW
  have HSB : Hid (∀ w' v, Zi w' v B 1048576 → Calls Try.prog 15 #[v] w' fun e w'' => e = .returned (.int .i64 0) ∧ Below w'.heap.size w' w'') := fun w' v h => int_as6 (rsign_z h (by decide)) (by rw [HB.out]; exact cmpI_self 0)
  have q0 : ((0 : Int) == 0) = true := rfl
  have q4 : ((4 : Int) == 4) = true := rfl
  have cb0 := Pb.out.c0
  have cb1 := Pb.out.c1
  rw [← hW] at cb0 cb1
  have EW := hid hW
  clear hW
  go_wp2_with fail
  rw [EW.out]
  clear EW
  clear cb0 cb1
  refine (HSB.out _ _ Zb.out).mono ?_
  rintro e w7 ⟨rfl, b⟩
  replace Za := hid (Za.out.now b)
  replace Zb := hid (Zb.out.now b)
  replace Zj := hid (Zj.out.now b)
  replace Pa := hid (Pa.out.step b)
  replace Pb := hid (Pb.out.step b)
  replace Pj := hid (Pj.out.step b)
  replace G := hid (below_step G.out b)
  have lz8 := (show Below _ _ _ from b).size
  clear b 
  have cj0 := Pj.out.c0
  have cj1 := Pj.out.c1
  go_wp2_with fail
  clear cj0 cj1
  refine (alike6_yes Zj.out.zc (zc_nil _ 0) rfl).mono ?_
  rintro e w9 ⟨rfl, b⟩
  replace Za := hid (Za.out.now b)
  replace Zb := hid (Zb.out.now b)
  replace Zj := hid (Zj.out.now b)
  replace Pa := hid (Pa.out.step b)
  replace Pb := hid (Pb.out.step b)
  replace Pj := hid (Pj.out.step b)
  replace G := hid (below_step G.out b)
  have lz10 := (show Below _ _ _ from b).size
  clear b 
  go_wp2
  go_ret
  exact ⟨rfl, G.out⟩

set_option maxHeartbeats 25600000 in
set_option maxRecDepth 100000 in
theorem inverts_some {w : World} {va vb : Value} {A B : Int} (ha : Zi w va A 1048576) (hb : Zi w vb B 1048576) (hB : B ≠ 0) (hg : (Int.gcd A B : Int) = 1) :
    Calls Try.prog 5 #[va, vb] w fun e w' => e = .returned (.bool true) ∧ Below w.heap.size w w' := by
  have HB := hid hB
  clear hB
  have HG := hid hg
  clear hg
  have za0 := ha
  obtain ⟨na, xa, ada, ca, rfl, -, -, -⟩ := ha
  have zb0 := hb
  obtain ⟨nb, xb, adb, cb, rfl, -, -, -⟩ := hb
  obtain ⟨W0, hW⟩ : ∃ W0, (w.alloc (duo (.bool na) (.slice ada xa.length ca))).alloc (duo (.bool nb) (.slice adb xb.length cb)) = W0 := ⟨_, rfl⟩
  obtain ⟨b0, sz0⟩ := alloc2 w (duo (.bool na) (.slice ada xa.length ca)) (duo (.bool nb) (.slice adb xb.length cb))
  rw [hW] at b0 sz0
  have Pa : Hid (Duo W0 (w.heap.size) (.bool na) (.slice ada xa.length ca)) := by unfold Hid; rw [← hW]; exact duo_late (duo_at (by simp)) _
  have Pb : Hid (Duo W0 (w.heap.size + 1) (.bool nb) (.slice adb xb.length cb)) := by unfold Hid; rw [← hW]; exact duo_at (by simp)
  have Za := hid (za0.now b0)
  clear za0
  have Zb := hid (zb0.now b0)
  clear zb0
  have G := hid b0
  clear b0
  have EW := hid hW
  clear hW
  go_enter Try.func5, Try.ntmps5
  skip
  go_wp2_with fail
  rw [EW.out]
  clear EW
  refine (wakes6 _).mono ?_
  rintro e w1 ⟨rfl, b⟩
  replace Za := hid (Za.out.now b)
  replace Zb := hid (Zb.out.now b)
  replace Pa := hid (Pa.out.step b)
  replace Pb := hid (Pb.out.step b)
  replace G := hid (below_step G.out b)
  have lz2 := (show Below _ _ _ from b).size
  clear b 
  have ca0 := Pa.out.c0
  have ca1 := Pa.out.c1
  have cb0 := Pb.out.c0
  have cb1 := Pb.out.c1
  go_wp2_with fail
  clear ca0 ca1 cb0 cb1
  refine (inverse_some Za.out Zb.out (by decide) (by decide) HB.out HG.out).mono ?_
  rintro e w3 ⟨zi, hi, r0, rfl, m0, b⟩
  obtain ⟨nj, xj, adj, qj, rfl, -, -, -, -, -⟩ := id m0
  have HI := hid hi
  clear hi
  replace Za := hid (Za.out.now b)
  replace Zb := hid (Zb.out.now b)
  replace Pa := hid (Pa.out.step b)
  replace Pb := hid (Pb.out.step b)
  replace G := hid (below_step G.out b)
  have lz4 := (show Below _ _ _ from b).size
  have Zj := hid m0
  clear b m0
  obtain ⟨V5, hW⟩ : ∃ V5, w3.alloc (duo (.bool nj) (.slice adj xj.length qj)) = V5 := ⟨_, rfl⟩
  obtain ⟨kW, sz5⟩ := alloc1 w3 (duo (.bool nj) (.slice adj xj.length qj))
  rw [hW] at kW sz5
  replace Za := hid (Za.out.now kW)
  replace Zb := hid (Zb.out.now kW)
  replace Zj := hid (Zj.out.now kW)
  replace Pa := hid (Pa.out.step kW)
  replace Pb := hid (Pb.out.step kW)
  replace G := hid (below_step G.out kW)
  have lz6 := (show Below _ _ _ from kW).size
  have Pj : Hid (Duo V5 (w3.heap.size) (.bool nj) (.slice adj xj.length qj)) := by unfold Hid; rw [← hW]; exact duo_at (by simp)
  clear kW
  have bB : (cmpI B 0 == 0) = false := by rw [beq_eq_false_iff_ne]; exact fun e => HB.out (cmpI_zero e)
  have HSB : Hid (∀ w' v, Zi w' v B 1048576 → _) := fun (w' : World) (v : Value) (h : Zi w' v B 1048576) => rsign_z h (by decide)
  generalize cmpI B 0 = SB at *
  have q0 : ((0 : Int) == 0) = true := rfl
  have q6 : ((0 : Int) == 6) = false := rfl
  have cb0 := Pb.out.c0
  have cb1 := Pb.out.c1
  rw [← hW] at cb0 cb1
  have EW := hid hW
  clear hW
  go_wp2_with fail
  rw [EW.out]
  clear EW
  clear cb0 cb1
  refine (HSB.out _ _ Zb.out).mono ?_
  rintro e w7 ⟨rfl, b⟩
  replace Za := hid (Za.out.now b)
  replace Zb := hid (Zb.out.now b)
  replace Zj := hid (Zj.out.now b)
  replace Pa := hid (Pa.out.step b)
  replace Pb := hid (Pb.out.step b)
  replace Pj := hid (Pj.out.step b)
  replace G := hid (below_step G.out b)
  have lz8 := (show Below _ _ _ from b).size
  clear b 
  have ca0 := Pa.out.c0
  have ca1 := Pa.out.c1
  have cj0 := Pj.out.c0
  have cj1 := Pj.out.c1
  go_wp2_with fail
  clear ca0 ca1 cj0 cj1
  refine (rmul_z Za.out Zj.out.zi (by decide) (by decide)).mono ?_
  rintro e w9 ⟨r0, rfl, m0, b⟩
  obtain ⟨nu, xu, adu, qu, rfl, -, -, -, -, -⟩ := id m0
  replace Za := hid (Za.out.now b)
  replace Zb := hid (Zb.out.now b)
  replace Zj := hid (Zj.out.now b)
  replace Pa := hid (Pa.out.step b)
  replace Pb := hid (Pb.out.step b)
  replace Pj := hid (Pj.out.step b)
  replace G := hid (below_step G.out b)
  have lz10 := (show Below _ _ _ from b).size
  have Zu := hid m0
  clear b m0
  go_wp2_with fail
  refine (of6c (n := 1) (by decide) (by decide) _).mono ?_
  rintro e w11 ⟨r0, rfl, m0, b⟩
  obtain ⟨no, xo, ado, qo, rfl, -, -, -, -, -⟩ := id m0
  replace Za := hid (Za.out.now b)
  replace Zb := hid (Zb.out.now b)
  replace Zj := hid (Zj.out.now b)
  replace Zu := hid (Zu.out.now b)
  replace Pa := hid (Pa.out.step b)
  replace Pb := hid (Pb.out.step b)
  replace Pj := hid (Pj.out.step b)
  replace G := hid (below_step G.out b)
  have lz12 := (show Below _ _ _ from b).size
  have Zo := hid m0
  clear b m0
  go_wp2_with fail
  refine (rsub_z Zu.out.zi Zo.out.zi (by decide) (by decide)).mono ?_
  rintro e w13 ⟨r0, rfl, m0, b⟩
  obtain ⟨np, xp, adp, qp, rfl, -, -, -, -, -⟩ := id m0
  replace Za := hid (Za.out.now b)
  replace Zb := hid (Zb.out.now b)
  replace Zj := hid (Zj.out.now b)
  replace Zu := hid (Zu.out.now b)
  replace Zo := hid (Zo.out.now b)
  replace Pa := hid (Pa.out.step b)
  replace Pb := hid (Pb.out.step b)
  replace Pj := hid (Pj.out.step b)
  replace G := hid (below_step G.out b)
  have lz14 := (show Below _ _ _ from b).size
  have Zp := hid m0
  clear b m0
  obtain ⟨V15, hW⟩ : ∃ V15, w13.alloc (duo (.bool np) (.slice adp xp.length qp)) = V15 := ⟨_, rfl⟩
  obtain ⟨kW, sz15⟩ := alloc1 w13 (duo (.bool np) (.slice adp xp.length qp))
  rw [hW] at kW sz15
  replace Za := hid (Za.out.now kW)
  replace Zb := hid (Zb.out.now kW)
  replace Zj := hid (Zj.out.now kW)
  replace Zu := hid (Zu.out.now kW)
  replace Zo := hid (Zo.out.now kW)
  replace Zp := hid (Zp.out.now kW)
  replace Pa := hid (Pa.out.step kW)
  replace Pb := hid (Pb.out.step kW)
  replace Pj := hid (Pj.out.step kW)
  replace G := hid (below_step G.out kW)
  have lz16 := (show Below _ _ _ from kW).size
  have Pp : Hid (Duo V15 (w13.heap.size) (.bool np) (.slice adp xp.length qp)) := by unfold Hid; rw [← hW]; exact duo_at (by simp)
  clear kW
  have cj0 := Pj.out.c0
  have cj1 := Pj.out.c1
  rw [← hW] at cj0 cj1
  have EW := hid hW
  clear hW
  go_wp2_with fail
  rw [EW.out]
  clear EW
  clear cj0 cj1
  refine (least6 Zj.out.zc).mono ?_
  rintro e w17 ⟨rfl, b⟩
  replace Za := hid (Za.out.now b)
  replace Zb := hid (Zb.out.now b)
  replace Zj := hid (Zj.out.now b)
  replace Zu := hid (Zu.out.now b)
  replace Zo := hid (Zo.out.now b)
  replace Zp := hid (Zp.out.now b)
  replace Pa := hid (Pa.out.step b)
  replace Pb := hid (Pb.out.step b)
  replace Pj := hid (Pj.out.step b)
  replace Pp := hid (Pp.out.step b)
  replace G := hid (below_step G.out b)
  have lz18 := (show Below _ _ _ from b).size
  clear b 
  have cj0 := Pj.out.c0
  have cj1 := Pj.out.c1
  have cb0 := Pb.out.c0
  have cb1 := Pb.out.c1
  go_wp2_with fail
  clear cj0 cj1 cb0 cb1
  refine (within6 Zj.out.zi Zb.out (by decide) ⟨HI.out.lo, HI.out.hi⟩).mono ?_
  rintro e w19 ⟨rfl, b⟩
  replace Za := hid (Za.out.now b)
  replace Zb := hid (Zb.out.now b)
  replace Zj := hid (Zj.out.now b)
  replace Zu := hid (Zu.out.now b)
  replace Zo := hid (Zo.out.now b)
  replace Zp := hid (Zp.out.now b)
  replace Pa := hid (Pa.out.step b)
  replace Pb := hid (Pb.out.step b)
  replace Pj := hid (Pj.out.step b)
  replace Pp := hid (Pp.out.step b)
  replace G := hid (below_step G.out b)
  have lz20 := (show Below _ _ _ from b).size
  clear b 
  have cb0 := Pb.out.c0
  have cb1 := Pb.out.c1
  have cp0 := Pp.out.c0
  have cp1 := Pp.out.c1
  go_wp2_with fail
  clear cb0 cb1 cp0 cp1
  refine (divides6 Zb.out Zp.out.zi (by decide) (by decide) HI.out.dv).mono ?_
  rintro e w21 ⟨rfl, b⟩
  replace Za := hid (Za.out.now b)
  replace Zb := hid (Zb.out.now b)
  replace Zj := hid (Zj.out.now b)
  replace Zu := hid (Zu.out.now b)
  replace Zo := hid (Zo.out.now b)
  replace Zp := hid (Zp.out.now b)
  replace Pa := hid (Pa.out.step b)
  replace Pb := hid (Pb.out.step b)
  replace Pj := hid (Pj.out.step b)
  replace Pp := hid (Pp.out.step b)
  replace G := hid (below_step G.out b)
  have lz22 := (show Below _ _ _ from b).size
  clear b 
  go_wp2
  go_ret
  exact ⟨rfl, G.out⟩

set_option maxHeartbeats 25600000 in
set_option maxRecDepth 100000 in
theorem inverts_none {w : World} {va vb : Value} {A B : Int} (ha : Zi w va A 1048576) (hb : Zi w vb B 1048576) (hB : B ≠ 0) (hg : (Int.gcd A B : Int) ≠ 1) :
    Calls Try.prog 5 #[va, vb] w fun e w' => e = .returned (.bool true) ∧ Below w.heap.size w w' := by
  have HB := hid hB
  clear hB
  have HG := hid hg
  clear hg
  have za0 := ha
  obtain ⟨na, xa, ada, ca, rfl, -, -, -⟩ := ha
  have zb0 := hb
  obtain ⟨nb, xb, adb, cb, rfl, -, -, -⟩ := hb
  obtain ⟨W0, hW⟩ : ∃ W0, (w.alloc (duo (.bool na) (.slice ada xa.length ca))).alloc (duo (.bool nb) (.slice adb xb.length cb)) = W0 := ⟨_, rfl⟩
  obtain ⟨b0, sz0⟩ := alloc2 w (duo (.bool na) (.slice ada xa.length ca)) (duo (.bool nb) (.slice adb xb.length cb))
  rw [hW] at b0 sz0
  have Pa : Hid (Duo W0 (w.heap.size) (.bool na) (.slice ada xa.length ca)) := by unfold Hid; rw [← hW]; exact duo_late (duo_at (by simp)) _
  have Pb : Hid (Duo W0 (w.heap.size + 1) (.bool nb) (.slice adb xb.length cb)) := by unfold Hid; rw [← hW]; exact duo_at (by simp)
  have Za := hid (za0.now b0)
  clear za0
  have Zb := hid (zb0.now b0)
  clear zb0
  have G := hid b0
  clear b0
  have EW := hid hW
  clear hW
  go_enter Try.func5, Try.ntmps5
  skip
  go_wp2_with fail
  rw [EW.out]
  clear EW
  refine (wakes6 _).mono ?_
  rintro e w1 ⟨rfl, b⟩
  replace Za := hid (Za.out.now b)
  replace Zb := hid (Zb.out.now b)
  replace Pa := hid (Pa.out.step b)
  replace Pb := hid (Pb.out.step b)
  replace G := hid (below_step G.out b)
  have lz2 := (show Below _ _ _ from b).size
  clear b 
  have ca0 := Pa.out.c0
  have ca1 := Pa.out.c1
  have cb0 := Pb.out.c0
  have cb1 := Pb.out.c1
  go_wp2_with fail
  clear ca0 ca1 cb0 cb1
  refine (inverse_none Za.out Zb.out (by decide) (by decide) HB.out HG.out).mono ?_
  rintro e w3 ⟨r0, rfl, m0, b⟩
  obtain ⟨nj, xj, adj, qj, rfl, -, -, -, -, -⟩ := id m0
  replace Za := hid (Za.out.now b)
  replace Zb := hid (Zb.out.now b)
  replace Pa := hid (Pa.out.step b)
  replace Pb := hid (Pb.out.step b)
  replace G := hid (below_step G.out b)
  have lz4 := (show Below _ _ _ from b).size
  have Zj := hid m0
  clear b m0
  obtain ⟨V5, hW⟩ : ∃ V5, w3.alloc (duo (.bool nj) (.slice adj xj.length qj)) = V5 := ⟨_, rfl⟩
  obtain ⟨kW, sz5⟩ := alloc1 w3 (duo (.bool nj) (.slice adj xj.length qj))
  rw [hW] at kW sz5
  replace Za := hid (Za.out.now kW)
  replace Zb := hid (Zb.out.now kW)
  replace Zj := hid (Zj.out.now kW)
  replace Pa := hid (Pa.out.step kW)
  replace Pb := hid (Pb.out.step kW)
  replace G := hid (below_step G.out kW)
  have lz6 := (show Below _ _ _ from kW).size
  have Pj : Hid (Duo V5 (w3.heap.size) (.bool nj) (.slice adj xj.length qj)) := by unfold Hid; rw [← hW]; exact duo_at (by simp)
  clear kW
  have bB : (cmpI B 0 == 0) = false := by rw [beq_eq_false_iff_ne]; exact fun e => HB.out (cmpI_zero e)
  have HSB : Hid (∀ w' v, Zi w' v B 1048576 → _) := fun (w' : World) (v : Value) (h : Zi w' v B 1048576) => rsign_z h (by decide)
  generalize cmpI B 0 = SB at *
  have q0 : ((6 : Int) == 0) = false := rfl
  have q6 : ((6 : Int) == 6) = true := rfl
  have cb0 := Pb.out.c0
  have cb1 := Pb.out.c1
  rw [← hW] at cb0 cb1
  have EW := hid hW
  clear hW
  go_wp2_with fail
  rw [EW.out]
  clear EW
  clear cb0 cb1
  refine (HSB.out _ _ Zb.out).mono ?_
  rintro e w7 ⟨rfl, b⟩
  replace Za := hid (Za.out.now b)
  replace Zb := hid (Zb.out.now b)
  replace Zj := hid (Zj.out.now b)
  replace Pa := hid (Pa.out.step b)
  replace Pb := hid (Pb.out.step b)
  replace Pj := hid (Pj.out.step b)
  replace G := hid (below_step G.out b)
  have lz8 := (show Below _ _ _ from b).size
  clear b 
  have g1 : 0 < cmpI (Int.gcd A B : Int) 1 := by
    have h0 : 0 < Int.gcd A B := Int.gcd_pos_of_ne_zero_right A HB.out
    have h1 := HG.out
    rw [cmpI_gt (by omega)]
    omega
  have HC : Hid (∀ w' v u, Zi w' v (Int.gcd A B : Int) 1048576 → Zi w' u 1 1 → _) := fun (w' : World) (v u : Value) (h : Zi w' v (Int.gcd A B : Int) 1048576) (h' : Zi w' u 1 1) => rcmp_z h h' (by decide) (by decide)
  generalize cmpI (Int.gcd A B : Int) 1 = CG at *
  have dA : Hid ((Int.gcd A B : Int) ∣ A) := Int.gcd_dvd_left ..
  have dB : Hid ((Int.gcd A B : Int) ∣ B) := Int.gcd_dvd_right ..
  have ca0 := Pa.out.c0
  have ca1 := Pa.out.c1
  have cb0 := Pb.out.c0
  have cb1 := Pb.out.c1
  go_wp2_with fail
  clear ca0 ca1 cb0 cb1
  refine (gcd_z Za.out Zb.out (by decide)).mono ?_
  rintro e w9 ⟨r0, rfl, m0, b⟩
  obtain ⟨ng, xg, adg, qg, rfl, -, -, -, -, -⟩ := id m0
  replace Za := hid (Za.out.now b)
  replace Zb := hid (Zb.out.now b)
  replace Zj := hid (Zj.out.now b)
  replace Pa := hid (Pa.out.step b)
  replace Pb := hid (Pb.out.step b)
  replace Pj := hid (Pj.out.step b)
  replace G := hid (below_step G.out b)
  have lz10 := (show Below _ _ _ from b).size
  have Zg := hid m0
  clear b m0
  obtain ⟨V11, hW⟩ : ∃ V11, w9.alloc (duo (.bool ng) (.slice adg xg.length qg)) = V11 := ⟨_, rfl⟩
  obtain ⟨kW, sz11⟩ := alloc1 w9 (duo (.bool ng) (.slice adg xg.length qg))
  rw [hW] at kW sz11
  replace Za := hid (Za.out.now kW)
  replace Zb := hid (Zb.out.now kW)
  replace Zj := hid (Zj.out.now kW)
  replace Zg := hid (Zg.out.now kW)
  replace Pa := hid (Pa.out.step kW)
  replace Pb := hid (Pb.out.step kW)
  replace Pj := hid (Pj.out.step kW)
  replace G := hid (below_step G.out kW)
  have lz12 := (show Below _ _ _ from kW).size
  have Pg : Hid (Duo V11 (w9.heap.size) (.bool ng) (.slice adg xg.length qg)) := by unfold Hid; rw [← hW]; exact duo_at (by simp)
  clear kW
  have EW := hid hW
  clear hW
  go_wp2_with fail
  rw [EW.out]
  clear EW
  refine wp_region_tail (fun w' => w'.cell? ⟨w3.heap.size, 0, none⟩ = some (.bool nj) ∧ w'.cell? ⟨w3.heap.size, 1, none⟩ = some (.slice adj xj.length qj) ∧ w'.cell? ⟨w9.heap.size, 0, none⟩ = some (.bool ng) ∧ w'.cell? ⟨w9.heap.size, 1, none⟩ = some (.slice adg xg.length qg) ∧ w'.cell? ⟨w.heap.size, 0, none⟩ = some (.bool na) ∧ w'.cell? ⟨w.heap.size, 1, none⟩ = some (.slice ada xa.length ca) ∧ w'.cell? ⟨w.heap.size + 1, 0, none⟩ = some (.bool nb) ∧ w'.cell? ⟨w.heap.size + 1, 1, none⟩ = some (.slice adb xb.length cb)) 23 (by kernel_rfl) ?_
  obtain ⟨D13, hD⟩ : ∃ D13, V11.drew = D13 := ⟨_, rfl⟩
  have b : Below V11.heap.size V11 D13 := by rw [← hD]; exact (Below.refl _ _).drew
  rw [hD]
  clear hD
  replace Za := hid (Za.out.now b)
  replace Zb := hid (Zb.out.now b)
  replace Zj := hid (Zj.out.now b)
  replace Zg := hid (Zg.out.now b)
  replace Pa := hid (Pa.out.step b)
  replace Pb := hid (Pb.out.step b)
  replace Pj := hid (Pj.out.step b)
  replace Pg := hid (Pg.out.step b)
  replace G := hid (below_step G.out b)
  have lz14 := (show Below _ _ _ from b).size
  clear b
  refine wpAnyT_take (i := 0) (oi := { dst := some 49, op := Op.move (Operand.tmp 6), type := 34, pos := "plain.go:113", after := #[], guard := none }) (v := (.int .i64 6)) rfl (by kernel_rfl) (fun _ _ _ h => h) (Or.inl ⟨by rfl, ?_⟩) ⟨Pj.out.c0, Pj.out.c1, Pg.out.c0, Pg.out.c1, Pa.out.c0, Pa.out.c1, Pb.out.c0, Pb.out.c1⟩ ?_
  · intro w hSw
    (try dsimp only at hSw)
    go_simp
  simp only [Act.put, List.setIfInBounds_toArray, List.set_cons_zero, List.set_cons_succ]
  refine wpAnyT_take (i := 1) (oi := { dst := some 50, op := Op.binOp BinOp.eql 34 (Operand.tmp 49) (Operand.const (Value.int IntKind.i64 6)) 34, type := 4, pos := "plain.go:113", after := #[{ on := 0, ground := Ground.data }], guard := none }) (v := (.bool true)) rfl (by kernel_rfl) (fun _ _ _ h => h) (Or.inl ⟨by rfl, ?_⟩) ⟨Pj.out.c0, Pj.out.c1, Pg.out.c0, Pg.out.c1, Pa.out.c0, Pa.out.c1, Pb.out.c0, Pb.out.c1⟩ ?_
  · intro w hSw
    (try dsimp only at hSw)
    go_simp
  simp only [Act.put, List.setIfInBounds_toArray, List.set_cons_zero, List.set_cons_succ]
  refine wpAnyT_take (i := 2) (oi := { dst := some 51, op := Op.move (Operand.tmp 50), type := 4, pos := "plain.go:113", after := #[{ on := 1, ground := Ground.data }], guard := none }) (v := (.bool true)) rfl (by kernel_rfl) (fun _ _ _ h => h) (Or.inl ⟨by rfl, ?_⟩) ⟨Pj.out.c0, Pj.out.c1, Pg.out.c0, Pg.out.c1, Pa.out.c0, Pa.out.c1, Pb.out.c0, Pb.out.c1⟩ ?_
  · intro w hSw
    (try dsimp only at hSw)
    go_simp
  simp only [Act.put, List.setIfInBounds_toArray, List.set_cons_zero, List.set_cons_succ]
  refine wpAnyT_take (i := 3) (oi := { dst := some 52, op := Op.load 24 (Operand.tmp 5), type := 24, pos := "plain.go:113", after := #[{ on := 2, ground := Ground.guard }], guard := some (2, true) }) (v := (.agg #[(.bool nj), (.slice adj xj.length qj)])) rfl (by kernel_rfl) (fun _ _ _ h => h) (Or.inl ⟨by rfl, ?_⟩) ⟨Pj.out.c0, Pj.out.c1, Pg.out.c0, Pg.out.c1, Pa.out.c0, Pa.out.c1, Pb.out.c0, Pb.out.c1⟩ ?_
  · intro w hSw
    (try dsimp only at hSw)
    go_simp
  simp only [Act.put, List.setIfInBounds_toArray, List.set_cons_zero, List.set_cons_succ]
  refine wpAnyT_take (i := 4) (oi := { dst := some 53, op := Op.build 24 #[], type := 24, pos := "plain.go:113", after := #[{ on := 2, ground := Ground.guard }], guard := some (2, true) }) (v := (.agg #[.bool false, .slice none 0 0])) rfl (by kernel_rfl) (fun _ _ _ h => h) (Or.inl ⟨by rfl, ?_⟩) ⟨Pj.out.c0, Pj.out.c1, Pg.out.c0, Pg.out.c1, Pa.out.c0, Pa.out.c1, Pb.out.c0, Pb.out.c1⟩ ?_
  · intro w hSw
    (try dsimp only at hSw)
    go_simp
  simp only [Act.put, List.setIfInBounds_toArray, List.set_cons_zero, List.set_cons_succ]
  refine wpAnyT_one (i := 5) (o := { dst := some 54, op := Op.call { callee := Callee.value (Operand.func 14), args := #[Operand.tmp 52, Operand.tmp 53], argTypes := #[24, 24] }, type := 4, pos := "plain.go:113", after := #[{ on := 3, ground := Ground.data }, { on := 4, ground := Ground.data }, { on := 2, ground := Ground.chain }, { on := 2, ground := Ground.guard }], guard := some (2, true) }) (by kernel_rfl) rfl (fun K hK => ?_)
  go_simp
  go_at_call 14
  refine (alike6_yes Zj.out.zc (zc_nil _ 0) rfl).mono ?_
  rintro e w15 ⟨rfl, b⟩
  replace Za := hid (Za.out.now b)
  replace Zb := hid (Zb.out.now b)
  replace Zj := hid (Zj.out.now b)
  replace Zg := hid (Zg.out.now b)
  replace Pa := hid (Pa.out.step b)
  replace Pb := hid (Pb.out.step b)
  replace Pj := hid (Pj.out.step b)
  replace Pg := hid (Pg.out.step b)
  replace G := hid (below_step G.out b)
  have lz16 := (show Below _ _ _ from b).size
  clear b 
  refine hK.out _ _ (fun _ => ⟨Pj.out.c0, Pj.out.c1, Pg.out.c0, Pg.out.c1, Pa.out.c0, Pa.out.c1, Pb.out.c0, Pb.out.c1⟩) ?_
  clear hK
  refine wpAnyT_take (i := 6) (oi := { dst := some 55, op := Op.pick (Operand.tmp 51) (Operand.tmp 54) (Operand.const (Value.bool false)), type := 4, pos := "plain.go:113", after := #[{ on := 2, ground := Ground.data }, { on := 5, ground := Ground.data }], guard := none }) (v := (.bool true)) rfl (by kernel_rfl) (fun _ _ _ h => h) (Or.inl ⟨by rfl, ?_⟩) ⟨Pj.out.c0, Pj.out.c1, Pg.out.c0, Pg.out.c1, Pa.out.c0, Pa.out.c1, Pb.out.c0, Pb.out.c1⟩ ?_
  · intro w hSw
    (try dsimp only at hSw)
    go_simp
  simp only [Act.put, List.setIfInBounds_toArray, List.set_cons_zero, List.set_cons_succ]
  refine wpAnyT_take (i := 7) (oi := { dst := some 56, op := Op.move (Operand.tmp 55), type := 4, pos := "plain.go:113", after := #[{ on := 6, ground := Ground.data }, { on := 5, ground := Ground.chain }], guard := none }) (v := (.bool true)) rfl (by kernel_rfl) (fun _ _ _ h => h) (Or.inl ⟨by rfl, ?_⟩) ⟨Pj.out.c0, Pj.out.c1, Pg.out.c0, Pg.out.c1, Pa.out.c0, Pa.out.c1, Pb.out.c0, Pb.out.c1⟩ ?_
  · intro w hSw
    (try dsimp only at hSw)
    go_simp
  simp only [Act.put, List.setIfInBounds_toArray, List.set_cons_zero, List.set_cons_succ]
  refine wpAnyT_take (i := 8) (oi := { dst := some 57, op := Op.load 24 (Operand.tmp 8), type := 24, pos := "plain.go:113", after := #[{ on := 7, ground := Ground.guard }], guard := some (7, true) }) (v := (.agg #[(.bool ng), (.slice adg xg.length qg)])) rfl (by kernel_rfl) (fun _ _ _ h => h) (Or.inl ⟨by rfl, ?_⟩) ⟨Pj.out.c0, Pj.out.c1, Pg.out.c0, Pg.out.c1, Pa.out.c0, Pa.out.c1, Pb.out.c0, Pb.out.c1⟩ ?_
  · intro w hSw
    (try dsimp only at hSw)
    go_simp
  simp only [Act.put, List.setIfInBounds_toArray, List.set_cons_zero, List.set_cons_succ]
  refine wpAnyT_one (i := 9) (o := { dst := some 58, op := Op.call { callee := Callee.value (Operand.func 30), args := #[Operand.const (Value.int IntKind.u64 1)], argTypes := #[45] }, type := 24, pos := "plain.go:113", after := #[{ on := 7, ground := Ground.chain }, { on := 7, ground := Ground.guard }], guard := some (7, true) }) (by kernel_rfl) rfl (fun K hK => ?_)
  go_simp
  go_at_call 30
  refine (of6c (n := 1) (by decide) (by decide) _).mono ?_
  rintro e w17 ⟨r0, rfl, m0, b⟩
  obtain ⟨no, xo, ado, qo, rfl, -, -, -, -, -⟩ := id m0
  replace Za := hid (Za.out.now b)
  replace Zb := hid (Zb.out.now b)
  replace Zj := hid (Zj.out.now b)
  replace Zg := hid (Zg.out.now b)
  replace Pa := hid (Pa.out.step b)
  replace Pb := hid (Pb.out.step b)
  replace Pj := hid (Pj.out.step b)
  replace Pg := hid (Pg.out.step b)
  replace G := hid (below_step G.out b)
  have lz18 := (show Below _ _ _ from b).size
  have Zo := hid m0
  clear b m0
  refine hK.out _ _ (fun _ => ⟨Pj.out.c0, Pj.out.c1, Pg.out.c0, Pg.out.c1, Pa.out.c0, Pa.out.c1, Pb.out.c0, Pb.out.c1⟩) ?_
  clear hK
  refine wpAnyT_one (i := 10) (o := { dst := some 59, op := Op.call { callee := Callee.value (Operand.func 31), args := #[Operand.tmp 57, Operand.tmp 58], argTypes := #[24, 24] }, type := 3, pos := "plain.go:113", after := #[{ on := 8, ground := Ground.data }, { on := 9, ground := Ground.data }, { on := 9, ground := Ground.chain }, { on := 7, ground := Ground.guard }], guard := some (7, true) }) (by kernel_rfl) rfl (fun K hK => ?_)
  go_simp
  go_at_call 31
  refine (HC.out _ _ _ Zg.out.zi Zo.out.zi).mono ?_
  rintro e w19 ⟨rfl, b⟩
  replace Za := hid (Za.out.now b)
  replace Zb := hid (Zb.out.now b)
  replace Zj := hid (Zj.out.now b)
  replace Zg := hid (Zg.out.now b)
  replace Zo := hid (Zo.out.now b)
  replace Pa := hid (Pa.out.step b)
  replace Pb := hid (Pb.out.step b)
  replace Pj := hid (Pj.out.step b)
  replace Pg := hid (Pg.out.step b)
  replace G := hid (below_step G.out b)
  have lz20 := (show Below _ _ _ from b).size
  clear b 
  refine hK.out _ _ (fun _ => ⟨Pj.out.c0, Pj.out.c1, Pg.out.c0, Pg.out.c1, Pa.out.c0, Pa.out.c1, Pb.out.c0, Pb.out.c1⟩) ?_
  clear hK
  refine wpAnyT_take (i := 11) (oi := { dst := some 60, op := Op.binOp BinOp.gtr 3 (Operand.tmp 59) (Operand.const (Value.int IntKind.i64 0)) 3, type := 4, pos := "plain.go:113", after := #[{ on := 10, ground := Ground.data }, { on := 7, ground := Ground.guard }], guard := some (7, true) }) (v := (.bool true)) rfl (by kernel_rfl) (fun _ _ _ h => h) (Or.inl ⟨by rfl, ?_⟩) ⟨Pj.out.c0, Pj.out.c1, Pg.out.c0, Pg.out.c1, Pa.out.c0, Pa.out.c1, Pb.out.c0, Pb.out.c1⟩ ?_
  · intro w hSw
    (try dsimp only at hSw)
    go_simp
  simp only [Act.put, List.setIfInBounds_toArray, List.set_cons_zero, List.set_cons_succ]
  refine wpAnyT_take (i := 12) (oi := { dst := some 61, op := Op.pick (Operand.tmp 56) (Operand.tmp 60) (Operand.const (Value.bool false)), type := 4, pos := "plain.go:113", after := #[{ on := 7, ground := Ground.data }, { on := 11, ground := Ground.data }], guard := none }) (v := (.bool true)) rfl (by kernel_rfl) (fun _ _ _ h => h) (Or.inl ⟨by rfl, ?_⟩) ⟨Pj.out.c0, Pj.out.c1, Pg.out.c0, Pg.out.c1, Pa.out.c0, Pa.out.c1, Pb.out.c0, Pb.out.c1⟩ ?_
  · intro w hSw
    (try dsimp only at hSw)
    go_simp
  simp only [Act.put, List.setIfInBounds_toArray, List.set_cons_zero, List.set_cons_succ]
  refine wpAnyT_take (i := 13) (oi := { dst := some 62, op := Op.move (Operand.tmp 61), type := 4, pos := "plain.go:113", after := #[{ on := 12, ground := Ground.data }, { on := 10, ground := Ground.chain }], guard := none }) (v := (.bool true)) rfl (by kernel_rfl) (fun _ _ _ h => h) (Or.inl ⟨by rfl, ?_⟩) ⟨Pj.out.c0, Pj.out.c1, Pg.out.c0, Pg.out.c1, Pa.out.c0, Pa.out.c1, Pb.out.c0, Pb.out.c1⟩ ?_
  · intro w hSw
    (try dsimp only at hSw)
    go_simp
  simp only [Act.put, List.setIfInBounds_toArray, List.set_cons_zero, List.set_cons_succ]
  refine wpAnyT_take (i := 14) (oi := { dst := some 63, op := Op.load 24 (Operand.tmp 8), type := 24, pos := "plain.go:113", after := #[{ on := 13, ground := Ground.guard }], guard := some (13, true) }) (v := (.agg #[(.bool ng), (.slice adg xg.length qg)])) rfl (by kernel_rfl) (fun _ _ _ h => h) (Or.inl ⟨by rfl, ?_⟩) ⟨Pj.out.c0, Pj.out.c1, Pg.out.c0, Pg.out.c1, Pa.out.c0, Pa.out.c1, Pb.out.c0, Pb.out.c1⟩ ?_
  · intro w hSw
    (try dsimp only at hSw)
    go_simp
  simp only [Act.put, List.setIfInBounds_toArray, List.set_cons_zero, List.set_cons_succ]
  refine wpAnyT_take (i := 15) (oi := { dst := some 64, op := Op.load 24 (Operand.tmp 2), type := 24, pos := "plain.go:113", after := #[{ on := 13, ground := Ground.guard }], guard := some (13, true) }) (v := (.agg #[(.bool na), (.slice ada xa.length ca)])) rfl (by kernel_rfl) (fun _ _ _ h => h) (Or.inl ⟨by rfl, ?_⟩) ⟨Pj.out.c0, Pj.out.c1, Pg.out.c0, Pg.out.c1, Pa.out.c0, Pa.out.c1, Pb.out.c0, Pb.out.c1⟩ ?_
  · intro w hSw
    (try dsimp only at hSw)
    go_simp
  simp only [Act.put, List.setIfInBounds_toArray, List.set_cons_zero, List.set_cons_succ]
  refine wpAnyT_one (i := 16) (o := { dst := some 65, op := Op.call { callee := Callee.value (Operand.func 16), args := #[Operand.tmp 63, Operand.tmp 64], argTypes := #[24, 24] }, type := 4, pos := "plain.go:113", after := #[{ on := 14, ground := Ground.data }, { on := 15, ground := Ground.data }, { on := 13, ground := Ground.chain }, { on := 13, ground := Ground.guard }], guard := some (13, true) }) (by kernel_rfl) rfl (fun K hK => ?_)
  go_simp
  go_at_call 16
  refine (divides6 Zg.out.zi Za.out (by decide) (by decide) dA.out).mono ?_
  rintro e w21 ⟨rfl, b⟩
  replace Za := hid (Za.out.now b)
  replace Zb := hid (Zb.out.now b)
  replace Zj := hid (Zj.out.now b)
  replace Zg := hid (Zg.out.now b)
  replace Zo := hid (Zo.out.now b)
  replace Pa := hid (Pa.out.step b)
  replace Pb := hid (Pb.out.step b)
  replace Pj := hid (Pj.out.step b)
  replace Pg := hid (Pg.out.step b)
  replace G := hid (below_step G.out b)
  have lz22 := (show Below _ _ _ from b).size
  clear b 
  refine hK.out _ _ (fun _ => ⟨Pj.out.c0, Pj.out.c1, Pg.out.c0, Pg.out.c1, Pa.out.c0, Pa.out.c1, Pb.out.c0, Pb.out.c1⟩) ?_
  clear hK
  refine wpAnyT_take (i := 17) (oi := { dst := some 66, op := Op.pick (Operand.tmp 62) (Operand.tmp 65) (Operand.const (Value.bool false)), type := 4, pos := "plain.go:113", after := #[{ on := 13, ground := Ground.data }, { on := 16, ground := Ground.data }], guard := none }) (v := (.bool true)) rfl (by kernel_rfl) (fun _ _ _ h => h) (Or.inl ⟨by rfl, ?_⟩) ⟨Pj.out.c0, Pj.out.c1, Pg.out.c0, Pg.out.c1, Pa.out.c0, Pa.out.c1, Pb.out.c0, Pb.out.c1⟩ ?_
  · intro w hSw
    (try dsimp only at hSw)
    go_simp
  simp only [Act.put, List.setIfInBounds_toArray, List.set_cons_zero, List.set_cons_succ]
  refine wpAnyT_take (i := 18) (oi := { dst := some 67, op := Op.move (Operand.tmp 66), type := 4, pos := "plain.go:113", after := #[{ on := 17, ground := Ground.data }, { on := 16, ground := Ground.chain }], guard := none }) (v := (.bool true)) rfl (by kernel_rfl) (fun _ _ _ h => h) (Or.inl ⟨by rfl, ?_⟩) ⟨Pj.out.c0, Pj.out.c1, Pg.out.c0, Pg.out.c1, Pa.out.c0, Pa.out.c1, Pb.out.c0, Pb.out.c1⟩ ?_
  · intro w hSw
    (try dsimp only at hSw)
    go_simp
  simp only [Act.put, List.setIfInBounds_toArray, List.set_cons_zero, List.set_cons_succ]
  refine wpAnyT_take (i := 19) (oi := { dst := some 68, op := Op.load 24 (Operand.tmp 8), type := 24, pos := "plain.go:113", after := #[{ on := 18, ground := Ground.guard }], guard := some (18, true) }) (v := (.agg #[(.bool ng), (.slice adg xg.length qg)])) rfl (by kernel_rfl) (fun _ _ _ h => h) (Or.inl ⟨by rfl, ?_⟩) ⟨Pj.out.c0, Pj.out.c1, Pg.out.c0, Pg.out.c1, Pa.out.c0, Pa.out.c1, Pb.out.c0, Pb.out.c1⟩ ?_
  · intro w hSw
    (try dsimp only at hSw)
    go_simp
  simp only [Act.put, List.setIfInBounds_toArray, List.set_cons_zero, List.set_cons_succ]
  refine wpAnyT_take (i := 20) (oi := { dst := some 69, op := Op.load 24 (Operand.tmp 3), type := 24, pos := "plain.go:113", after := #[{ on := 18, ground := Ground.guard }], guard := some (18, true) }) (v := (.agg #[(.bool nb), (.slice adb xb.length cb)])) rfl (by kernel_rfl) (fun _ _ _ h => h) (Or.inl ⟨by rfl, ?_⟩) ⟨Pj.out.c0, Pj.out.c1, Pg.out.c0, Pg.out.c1, Pa.out.c0, Pa.out.c1, Pb.out.c0, Pb.out.c1⟩ ?_
  · intro w hSw
    (try dsimp only at hSw)
    go_simp
  simp only [Act.put, List.setIfInBounds_toArray, List.set_cons_zero, List.set_cons_succ]
  refine wpAnyT_one (i := 21) (o := { dst := some 70, op := Op.call { callee := Callee.value (Operand.func 16), args := #[Operand.tmp 68, Operand.tmp 69], argTypes := #[24, 24] }, type := 4, pos := "plain.go:113", after := #[{ on := 19, ground := Ground.data }, { on := 20, ground := Ground.data }, { on := 18, ground := Ground.chain }, { on := 18, ground := Ground.guard }], guard := some (18, true) }) (by kernel_rfl) rfl (fun K hK => ?_)
  go_simp
  go_at_call 16
  refine (divides6 Zg.out.zi Zb.out (by decide) (by decide) dB.out).mono ?_
  rintro e w23 ⟨rfl, b⟩
  replace Za := hid (Za.out.now b)
  replace Zb := hid (Zb.out.now b)
  replace Zj := hid (Zj.out.now b)
  replace Zg := hid (Zg.out.now b)
  replace Zo := hid (Zo.out.now b)
  replace Pa := hid (Pa.out.step b)
  replace Pb := hid (Pb.out.step b)
  replace Pj := hid (Pj.out.step b)
  replace Pg := hid (Pg.out.step b)
  replace G := hid (below_step G.out b)
  have lz24 := (show Below _ _ _ from b).size
  clear b 
  refine hK.out _ _ (fun _ => ⟨Pj.out.c0, Pj.out.c1, Pg.out.c0, Pg.out.c1, Pa.out.c0, Pa.out.c1, Pb.out.c0, Pb.out.c1⟩) ?_
  clear hK
  refine wpAnyT_take (i := 22) (oi := { dst := some 71, op := Op.pick (Operand.tmp 67) (Operand.tmp 70) (Operand.const (Value.bool false)), type := 4, pos := "plain.go:113", after := #[{ on := 18, ground := Ground.data }, { on := 21, ground := Ground.data }], guard := none }) (v := (.bool true)) rfl (by kernel_rfl) (fun _ _ _ h => h) (Or.inl ⟨by rfl, ?_⟩) ⟨Pj.out.c0, Pj.out.c1, Pg.out.c0, Pg.out.c1, Pa.out.c0, Pa.out.c1, Pb.out.c0, Pb.out.c1⟩ ?_
  · intro w hSw
    (try dsimp only at hSw)
    go_simp
  simp only [Act.put, List.setIfInBounds_toArray, List.set_cons_zero, List.set_cons_succ]
  refine wpAnyT_one (i := 23) (o := { dst := some 4, op := Op.assign (Operand.tmp 71), type := 4, pos := "plain.go:113", after := #[{ on := 22, ground := Ground.data }, { on := 21, ground := Ground.chain }, { on := 0, ground := Ground.phase }, { on := 1, ground := Ground.phase }, { on := 2, ground := Ground.phase }, { on := 3, ground := Ground.phase }, { on := 4, ground := Ground.phase }, { on := 5, ground := Ground.phase }, { on := 6, ground := Ground.phase }, { on := 7, ground := Ground.phase }, { on := 8, ground := Ground.phase }, { on := 9, ground := Ground.phase }, { on := 10, ground := Ground.phase }, { on := 11, ground := Ground.phase }, { on := 12, ground := Ground.phase }, { on := 13, ground := Ground.phase }, { on := 14, ground := Ground.phase }, { on := 15, ground := Ground.phase }, { on := 16, ground := Ground.phase }, { on := 17, ground := Ground.phase }, { on := 18, ground := Ground.phase }, { on := 19, ground := Ground.phase }, { on := 20, ground := Ground.phase }, { on := 21, ground := Ground.phase }, { on := 22, ground := Ground.phase }], guard := none }) (by kernel_rfl) rfl (fun K hK => ?_)
  go_simp
  refine hK.out _ _ (fun h => absurd h (by decide)) ?_
  clear hK
  try simp only [Act.put]
  refine wpAnyT_done (by kernel_rfl) ?_ _
  go_wp2
  go_ret
  exact ⟨rfl, G.out⟩

theorem bezoutInverts_any {w : World} {va vb : Value} {A B : Int} (ha : Zi w va A 1048576) (hb : Zi w vb B 1048576) :
    Calls Try.prog 5 #[va, vb] w fun e w' => e = .returned (.bool true) ∧ Below w.heap.size w w' := by
  by_cases hB : B = 0
  · exact inverts_zero ha hb hB
  · by_cases hg : (Int.gcd A B : Int) = 1
    · exact inverts_some ha hb hB hg
    · exact inverts_none ha hb hB hg
end Go.Proofs.Ythdnnphpjdchnaa
