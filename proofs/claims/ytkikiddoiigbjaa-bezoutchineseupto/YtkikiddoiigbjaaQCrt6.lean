/-
  Crt6: Crt.
-/
import Derived.Test.YtkikiddoiigbjaaQLm6ToTailA
import Derived.Test.YtkikiddoiigbjaaQZMetToMWord
namespace Go.Proofs.Ytkikiddoiigbjaa
open Go.RowKit
set_option linter.unusedVariables false

theorem alloc6 (w : World) (o1 o2 o3 o4 o5 o6 : Obj) : Below w.heap.size w ((((((w.alloc o1).alloc o2).alloc o3).alloc o4).alloc o5).alloc o6) ∧ ((((((w.alloc o1).alloc o2).alloc o3).alloc o4).alloc o5).alloc o6).heap.size = w.heap.size + 1 + 1 + 1 + 1 + 1 + 1 := ⟨((((((Below.refl _ _).alloc (Nat.le_refl _) _).alloc (by simp) _).alloc (by simp; omega) _).alloc (by simp; omega) _).alloc (by simp; omega) _).alloc (by simp; omega) _, by simp⟩
theorem crt_fit {b d v : Int} {kb kd : Nat} (hb : (b.natAbs : Int) < pw kb) (hd : (d.natAbs : Int) < pw kd) (hv : v.natAbs ≤ d.natAbs) : ((((b * v).natAbs : Int)).natAbs : Int) < pw (kb + kd) := by
  rw [pw_plus]
  have h1 := pw_pos kb
  have h2 := pw_pos kd
  have e : ((((b * v).natAbs : Int)).natAbs : Int) = (b.natAbs : Int) * (v.natAbs : Int) := by rw [Int.natAbs_natCast, Int.natAbs_mul]; push_cast; rfl
  rw [e]
  have h3 : (b.natAbs : Int) * (v.natAbs : Int) ≤ (b.natAbs : Int) * (d.natAbs : Int) := Int.mul_le_mul_of_nonneg_left (by omega) (by omega)
  have h4 : (b.natAbs : Int) * (d.natAbs : Int) ≤ pw kb * (d.natAbs : Int) := Int.mul_le_mul_of_nonneg_right (by omega) (by omega)
  have h5 : pw kb * (d.natAbs : Int) < pw kb * pw kd := Int.mul_lt_mul_of_pos_left hd h1
  omega
/-- What Crt answers where the remainders go together. -/
def Crted (w : World) (A B S T : Int) (k : Nat) (e : Ending) (w' : World) : Prop := ∃ r m, CrtV A B S T r m ∧ GivesZ2 0 w r m k k e w'

set_option maxHeartbeats 25600000 in
set_option maxRecDepth 100000 in
theorem crt_z1 {w : World} {va vb vs vt : Value} {A B S T : Int} {k : Nat} (ha : Zi w va A k) (hb : Zi w vb B k) (hs : Zi w vs S k) (ht : Zi w vt T k) (h1 : 1 ≤ k) (hk : k ≤ 17179869184) (hB : B = 0) :
    Calls Try.prog 33 #[va, vb, vs, vt] w (GivesZ2 4 w 0 0 k k) := by
  have HB := hid hB
  clear hB
  have q0 : ((0 : Int) == 0) = true := rfl
  have za0 := ha
  obtain ⟨na, xa, ada, ca, rfl, -, -, -⟩ := ha
  have zb0 := hb
  obtain ⟨nb, xb, adb, cb, rfl, -, -, -⟩ := hb
  have zs0 := hs
  obtain ⟨ns, xs, ads, cs, rfl, -, -, -⟩ := hs
  have zt0 := ht
  obtain ⟨nt, xt, adt, ct, rfl, -, -, -⟩ := ht
  obtain ⟨W0, hW⟩ : ∃ W0, (((((w.alloc (duo (.bool na) (.slice ada xa.length ca))).alloc (duo (.bool nb) (.slice adb xb.length cb))).alloc (duo (.bool ns) (.slice ads xs.length cs))).alloc (duo (.bool nt) (.slice adt xt.length ct))).alloc zbox).alloc zbox = W0 := ⟨_, rfl⟩
  obtain ⟨b0, sz0⟩ := alloc6 w (duo (.bool na) (.slice ada xa.length ca)) (duo (.bool nb) (.slice adb xb.length cb)) (duo (.bool ns) (.slice ads xs.length cs)) (duo (.bool nt) (.slice adt xt.length ct)) zbox zbox
  rw [hW] at b0 sz0
  have Pa : Hid (Duo W0 (w.heap.size) (.bool na) (.slice ada xa.length ca)) := by unfold Hid; rw [← hW]; exact duo_late (duo_late (duo_late (duo_late (duo_late (duo_at (by simp)) _) _) _) _) _
  have Pb : Hid (Duo W0 (w.heap.size + 1) (.bool nb) (.slice adb xb.length cb)) := by unfold Hid; rw [← hW]; exact duo_late (duo_late (duo_late (duo_late (duo_at (by simp)) _) _) _) _
  have Ps : Hid (Duo W0 (w.heap.size + 1 + 1) (.bool ns) (.slice ads xs.length cs)) := by unfold Hid; rw [← hW]; exact duo_late (duo_late (duo_late (duo_at (by simp)) _) _) _
  have Pt : Hid (Duo W0 (w.heap.size + 1 + 1 + 1) (.bool nt) (.slice adt xt.length ct)) := by unfold Hid; rw [← hW]; exact duo_late (duo_late (duo_at (by simp)) _) _
  have PRR : Hid (Duo W0 (w.heap.size + 1 + 1 + 1 + 1) (.bool false) (.slice none 0 0)) := by unfold Hid; rw [← hW]; exact duo_late (duo_at (by simp)) _
  have PRM : Hid (Duo W0 (w.heap.size + 1 + 1 + 1 + 1 + 1) (.bool false) (.slice none 0 0)) := by unfold Hid; rw [← hW]; exact duo_at (by simp)
  have Za := hid (za0.now b0)
  clear za0
  have Zb := hid (zb0.now b0)
  clear zb0
  have Zs := hid (zs0.now b0)
  clear zs0
  have Zt := hid (zt0.now b0)
  clear zt0
  have G := hid b0
  clear b0
  have EW := hid hW
  clear hW
  go_enter Try.func33, Try.ntmps33
  have cb0 := Pb.out.c0
  have cb1 := Pb.out.c1
  rw [← EW.out] at cb0 cb1
  go_wp2_with fail
  rw [EW.out]
  clear EW
  clear cb0 cb1
  refine (zi_sign_no Zb.out HB.out).mono ?_
  rintro e w1 ⟨rfl, b⟩
  replace Za := hid (Za.out.now b)
  replace Zb := hid (Zb.out.now b)
  replace Zs := hid (Zs.out.now b)
  replace Zt := hid (Zt.out.now b)
  replace Pa := hid (Pa.out.step b)
  replace Pb := hid (Pb.out.step b)
  replace Ps := hid (Ps.out.step b)
  replace Pt := hid (Pt.out.step b)
  replace PRR := hid (PRR.out.step b)
  replace PRM := hid (PRM.out.step b)
  replace G := hid (below_step G.out b)
  have lz2 := (show Below _ _ _ from b).size
  clear b 
  have cRR0 := PRR.out.c0
  have cRR1 := PRR.out.c1
  have cRM0 := PRM.out.c0
  have cRM1 := PRM.out.c1
  have fRR0 := PRR.out.fz 0
  have fRR1 := PRR.out.fz 1
  have fRM0 := PRM.out.fz 0
  have fRM1 := PRM.out.fz 1
  go_wp2
  refine bodyPost_ret (zback2 Try.results33 ((PRR.out.set _ _).box (by omega) _ _) ((PRM.out.box (by omega) _ _).set _ _) _ (by rfl) (by rfl) (by rfl)) rfl ?_
  exact ⟨_, _, rfl, zm_nil _ _ _, zm_nil _ _ _, bset (bset (bset (bset G.out (by omega)) (by omega)) (by omega)) (by omega)⟩

set_option maxHeartbeats 25600000 in
set_option maxRecDepth 100000 in
theorem crt_z2 {w : World} {va vb vs vt : Value} {A B S T : Int} {k : Nat} (ha : Zi w va A k) (hb : Zi w vb B k) (hs : Zi w vs S k) (ht : Zi w vt T k) (h1 : 1 ≤ k) (hk : k ≤ 17179869184) (hB : B ≠ 0) (hT : T = 0) :
    Calls Try.prog 33 #[va, vb, vs, vt] w (GivesZ2 4 w 0 0 k k) := by
  have HB := hid hB
  clear hB
  have HT := hid hT
  clear hT
  have q0 : ((0 : Int) == 0) = true := rfl
  have HSB : Hid (∀ w' v, Zi w' v B k → _) := fun (w' : World) (v : Value) (h : Zi w' v B k) => sign_z h
  have qB : (cmpI B 0 == 0) = false := by rw [beq_eq_false_iff_ne]; exact fun e => HB.out (cmpI_zero e)
  generalize cmpI B 0 = SB at *
  have za0 := ha
  obtain ⟨na, xa, ada, ca, rfl, -, -, -⟩ := ha
  have zb0 := hb
  obtain ⟨nb, xb, adb, cb, rfl, -, -, -⟩ := hb
  have zs0 := hs
  obtain ⟨ns, xs, ads, cs, rfl, -, -, -⟩ := hs
  have zt0 := ht
  obtain ⟨nt, xt, adt, ct, rfl, -, -, -⟩ := ht
  obtain ⟨W0, hW⟩ : ∃ W0, (((((w.alloc (duo (.bool na) (.slice ada xa.length ca))).alloc (duo (.bool nb) (.slice adb xb.length cb))).alloc (duo (.bool ns) (.slice ads xs.length cs))).alloc (duo (.bool nt) (.slice adt xt.length ct))).alloc zbox).alloc zbox = W0 := ⟨_, rfl⟩
  obtain ⟨b0, sz0⟩ := alloc6 w (duo (.bool na) (.slice ada xa.length ca)) (duo (.bool nb) (.slice adb xb.length cb)) (duo (.bool ns) (.slice ads xs.length cs)) (duo (.bool nt) (.slice adt xt.length ct)) zbox zbox
  rw [hW] at b0 sz0
  have Pa : Hid (Duo W0 (w.heap.size) (.bool na) (.slice ada xa.length ca)) := by unfold Hid; rw [← hW]; exact duo_late (duo_late (duo_late (duo_late (duo_late (duo_at (by simp)) _) _) _) _) _
  have Pb : Hid (Duo W0 (w.heap.size + 1) (.bool nb) (.slice adb xb.length cb)) := by unfold Hid; rw [← hW]; exact duo_late (duo_late (duo_late (duo_late (duo_at (by simp)) _) _) _) _
  have Ps : Hid (Duo W0 (w.heap.size + 1 + 1) (.bool ns) (.slice ads xs.length cs)) := by unfold Hid; rw [← hW]; exact duo_late (duo_late (duo_late (duo_at (by simp)) _) _) _
  have Pt : Hid (Duo W0 (w.heap.size + 1 + 1 + 1) (.bool nt) (.slice adt xt.length ct)) := by unfold Hid; rw [← hW]; exact duo_late (duo_late (duo_at (by simp)) _) _
  have PRR : Hid (Duo W0 (w.heap.size + 1 + 1 + 1 + 1) (.bool false) (.slice none 0 0)) := by unfold Hid; rw [← hW]; exact duo_late (duo_at (by simp)) _
  have PRM : Hid (Duo W0 (w.heap.size + 1 + 1 + 1 + 1 + 1) (.bool false) (.slice none 0 0)) := by unfold Hid; rw [← hW]; exact duo_at (by simp)
  have Za := hid (za0.now b0)
  clear za0
  have Zb := hid (zb0.now b0)
  clear zb0
  have Zs := hid (zs0.now b0)
  clear zs0
  have Zt := hid (zt0.now b0)
  clear zt0
  have G := hid b0
  clear b0
  have EW := hid hW
  clear hW
  go_enter Try.func33, Try.ntmps33
  have cb0 := Pb.out.c0
  have cb1 := Pb.out.c1
  rw [← EW.out] at cb0 cb1
  go_wp2_with fail
  rw [EW.out]
  clear EW
  clear cb0 cb1
  refine (HSB.out _ _ Zb.out).mono ?_
  rintro e w1 ⟨rfl, b⟩
  replace Za := hid (Za.out.now b)
  replace Zb := hid (Zb.out.now b)
  replace Zs := hid (Zs.out.now b)
  replace Zt := hid (Zt.out.now b)
  replace Pa := hid (Pa.out.step b)
  replace Pb := hid (Pb.out.step b)
  replace Ps := hid (Ps.out.step b)
  replace Pt := hid (Pt.out.step b)
  replace PRR := hid (PRR.out.step b)
  replace PRM := hid (PRM.out.step b)
  replace G := hid (below_step G.out b)
  have lz2 := (show Below _ _ _ from b).size
  clear b 
  have ct0 := Pt.out.c0
  have ct1 := Pt.out.c1
  go_wp2_with fail
  clear ct0 ct1
  refine (zi_sign_no Zt.out HT.out).mono ?_
  rintro e w3 ⟨rfl, b⟩
  replace Za := hid (Za.out.now b)
  replace Zb := hid (Zb.out.now b)
  replace Zs := hid (Zs.out.now b)
  replace Zt := hid (Zt.out.now b)
  replace Pa := hid (Pa.out.step b)
  replace Pb := hid (Pb.out.step b)
  replace Ps := hid (Ps.out.step b)
  replace Pt := hid (Pt.out.step b)
  replace PRR := hid (PRR.out.step b)
  replace PRM := hid (PRM.out.step b)
  replace G := hid (below_step G.out b)
  have lz4 := (show Below _ _ _ from b).size
  clear b 
  have cRR0 := PRR.out.c0
  have cRR1 := PRR.out.c1
  have cRM0 := PRM.out.c0
  have cRM1 := PRM.out.c1
  have fRR0 := PRR.out.fz 0
  have fRR1 := PRR.out.fz 1
  have fRM0 := PRM.out.fz 0
  have fRM1 := PRM.out.fz 1
  go_wp2
  refine bodyPost_ret (zback2 Try.results33 ((PRR.out.set _ _).box (by omega) _ _) ((PRM.out.box (by omega) _ _).set _ _) _ (by rfl) (by rfl) (by rfl)) rfl ?_
  exact ⟨_, _, rfl, zm_nil _ _ _, zm_nil _ _ _, bset (bset (bset (bset G.out (by omega)) (by omega)) (by omega)) (by omega)⟩

set_option maxHeartbeats 25600000 in
set_option maxRecDepth 100000 in
theorem crt_none {w : World} {va vb vs vt : Value} {A B S T : Int} {k : Nat} (ha : Zi w va A k) (hb : Zi w vb B k) (hs : Zi w vs S k) (ht : Zi w vt T k) (h1 : 1 ≤ k) (hk : k ≤ 17179869184) (hB : B ≠ 0) (hT : T ≠ 0) (hg : ¬ (Int.gcd B T : Int) ∣ S - A) :
    Calls Try.prog 33 #[va, vb, vs, vt] w (GivesZ2 6 w 0 0 k k) := by
  have HB := hid hB
  clear hB
  have HT := hid hT
  clear hT
  have HG := hid hg
  clear hg
  have q0 : ((0 : Int) == 0) = true := rfl
  have HSB : Hid (∀ w' v, Zi w' v B k → _) := fun (w' : World) (v : Value) (h : Zi w' v B k) => sign_z h
  have qB : (cmpI B 0 == 0) = false := by rw [beq_eq_false_iff_ne]; exact fun e => HB.out (cmpI_zero e)
  generalize cmpI B 0 = SB at *
  have HST : Hid (∀ w' v, Zi w' v T k → _) := fun (w' : World) (v : Value) (h : Zi w' v T k) => sign_z h
  have qT : (cmpI T 0 == 0) = false := by rw [beq_eq_false_iff_ne]; exact fun e => HT.out (cmpI_zero e)
  generalize cmpI T 0 = ST at *
  have za0 := ha
  obtain ⟨na, xa, ada, ca, rfl, -, -, -⟩ := ha
  have zb0 := hb
  obtain ⟨nb, xb, adb, cb, rfl, -, -, -⟩ := hb
  have zs0 := hs
  obtain ⟨ns, xs, ads, cs, rfl, -, -, -⟩ := hs
  have zt0 := ht
  obtain ⟨nt, xt, adt, ct, rfl, -, -, -⟩ := ht
  obtain ⟨W0, hW⟩ : ∃ W0, (((((w.alloc (duo (.bool na) (.slice ada xa.length ca))).alloc (duo (.bool nb) (.slice adb xb.length cb))).alloc (duo (.bool ns) (.slice ads xs.length cs))).alloc (duo (.bool nt) (.slice adt xt.length ct))).alloc zbox).alloc zbox = W0 := ⟨_, rfl⟩
  obtain ⟨b0, sz0⟩ := alloc6 w (duo (.bool na) (.slice ada xa.length ca)) (duo (.bool nb) (.slice adb xb.length cb)) (duo (.bool ns) (.slice ads xs.length cs)) (duo (.bool nt) (.slice adt xt.length ct)) zbox zbox
  rw [hW] at b0 sz0
  have Pa : Hid (Duo W0 (w.heap.size) (.bool na) (.slice ada xa.length ca)) := by unfold Hid; rw [← hW]; exact duo_late (duo_late (duo_late (duo_late (duo_late (duo_at (by simp)) _) _) _) _) _
  have Pb : Hid (Duo W0 (w.heap.size + 1) (.bool nb) (.slice adb xb.length cb)) := by unfold Hid; rw [← hW]; exact duo_late (duo_late (duo_late (duo_late (duo_at (by simp)) _) _) _) _
  have Ps : Hid (Duo W0 (w.heap.size + 1 + 1) (.bool ns) (.slice ads xs.length cs)) := by unfold Hid; rw [← hW]; exact duo_late (duo_late (duo_late (duo_at (by simp)) _) _) _
  have Pt : Hid (Duo W0 (w.heap.size + 1 + 1 + 1) (.bool nt) (.slice adt xt.length ct)) := by unfold Hid; rw [← hW]; exact duo_late (duo_late (duo_at (by simp)) _) _
  have PRR : Hid (Duo W0 (w.heap.size + 1 + 1 + 1 + 1) (.bool false) (.slice none 0 0)) := by unfold Hid; rw [← hW]; exact duo_late (duo_at (by simp)) _
  have PRM : Hid (Duo W0 (w.heap.size + 1 + 1 + 1 + 1 + 1) (.bool false) (.slice none 0 0)) := by unfold Hid; rw [← hW]; exact duo_at (by simp)
  have Za := hid (za0.now b0)
  clear za0
  have Zb := hid (zb0.now b0)
  clear zb0
  have Zs := hid (zs0.now b0)
  clear zs0
  have Zt := hid (zt0.now b0)
  clear zt0
  have G := hid b0
  clear b0
  have EW := hid hW
  clear hW
  go_enter Try.func33, Try.ntmps33
  have cb0 := Pb.out.c0
  have cb1 := Pb.out.c1
  rw [← EW.out] at cb0 cb1
  go_wp2_with fail
  rw [EW.out]
  clear EW
  clear cb0 cb1
  refine (HSB.out _ _ Zb.out).mono ?_
  rintro e w1 ⟨rfl, b⟩
  replace Za := hid (Za.out.now b)
  replace Zb := hid (Zb.out.now b)
  replace Zs := hid (Zs.out.now b)
  replace Zt := hid (Zt.out.now b)
  replace Pa := hid (Pa.out.step b)
  replace Pb := hid (Pb.out.step b)
  replace Ps := hid (Ps.out.step b)
  replace Pt := hid (Pt.out.step b)
  replace PRR := hid (PRR.out.step b)
  replace PRM := hid (PRM.out.step b)
  replace G := hid (below_step G.out b)
  have lz2 := (show Below _ _ _ from b).size
  clear b 
  have ct0 := Pt.out.c0
  have ct1 := Pt.out.c1
  go_wp2_with fail
  clear ct0 ct1
  refine (HST.out _ _ Zt.out).mono ?_
  rintro e w3 ⟨rfl, b⟩
  replace Za := hid (Za.out.now b)
  replace Zb := hid (Zb.out.now b)
  replace Zs := hid (Zs.out.now b)
  replace Zt := hid (Zt.out.now b)
  replace Pa := hid (Pa.out.step b)
  replace Pb := hid (Pb.out.step b)
  replace Ps := hid (Ps.out.step b)
  replace Pt := hid (Pt.out.step b)
  replace PRR := hid (PRR.out.step b)
  replace PRM := hid (PRM.out.step b)
  replace G := hid (below_step G.out b)
  have lz4 := (show Below _ _ _ from b).size
  clear b 
  clear HST HSB
  have cb0 := Pb.out.c0
  have cb1 := Pb.out.c1
  have ct0 := Pt.out.c0
  have ct1 := Pt.out.c1
  go_wp2_with fail
  clear cb0 cb1 ct0 ct1
  refine (lm_z Zb.out Zt.out h1 (by omega) HT.out).mono ?_
  rintro e w5 ⟨zg, zx, zy, r0, r1, hx, rfl, m0, m1, b⟩
  obtain ⟨ng, xg, adg, qg, rfl, -, -, -, -, -⟩ := id m0
  obtain ⟨nx, xx, adx, qx, rfl, -, -, -, -, -⟩ := id m1
  have HX := hid hx
  clear hx
  replace Za := hid (Za.out.now b)
  replace Zb := hid (Zb.out.now b)
  replace Zs := hid (Zs.out.now b)
  replace Zt := hid (Zt.out.now b)
  replace Pa := hid (Pa.out.step b)
  replace Pb := hid (Pb.out.step b)
  replace Ps := hid (Ps.out.step b)
  replace Pt := hid (Pt.out.step b)
  replace PRR := hid (PRR.out.step b)
  replace PRM := hid (PRM.out.step b)
  replace G := hid (below_step G.out b)
  have lz6 := (show Below _ _ _ from b).size
  have Zg := hid m0
  have Zx := hid m1
  clear b m0 m1
  obtain ⟨V7, hW⟩ : ∃ V7, (w5.alloc (duo (.bool ng) (.slice adg xg.length qg))).alloc (duo (.bool nx) (.slice adx xx.length qx)) = V7 := ⟨_, rfl⟩
  obtain ⟨kW, sz7⟩ := alloc2 w5 (duo (.bool ng) (.slice adg xg.length qg)) (duo (.bool nx) (.slice adx xx.length qx))
  rw [hW] at kW sz7
  replace Za := hid (Za.out.now kW)
  replace Zb := hid (Zb.out.now kW)
  replace Zs := hid (Zs.out.now kW)
  replace Zt := hid (Zt.out.now kW)
  replace Zg := hid (Zg.out.now kW)
  replace Zx := hid (Zx.out.now kW)
  replace Pa := hid (Pa.out.step kW)
  replace Pb := hid (Pb.out.step kW)
  replace Ps := hid (Ps.out.step kW)
  replace Pt := hid (Pt.out.step kW)
  replace PRR := hid (PRR.out.step kW)
  replace PRM := hid (PRM.out.step kW)
  replace G := hid (below_step G.out kW)
  have lz8 := (show Below _ _ _ from kW).size
  have Pg : Hid (Duo V7 (w5.heap.size) (.bool ng) (.slice adg xg.length qg)) := by unfold Hid; rw [← hW]; exact duo_late (duo_at (by simp)) _
  have Px : Hid (Duo V7 (w5.heap.size + 1) (.bool nx) (.slice adx xx.length qx)) := by unfold Hid; rw [← hW]; exact duo_at (by simp)
  clear kW
  have QG : Hid (zg ≠ 0 ∧ (S - A).tmod zg ≠ 0) := by
    have e := HX.out.gcd
    rw [gcd_emod] at e
    have h0 : 0 < Int.gcd B T := Int.gcd_pos_of_ne_zero_right B HT.out
    refine ⟨by omega, fun h => HG.out ?_⟩
    rw [← e]
    exact Int.dvd_of_tmod_eq_zero h
  have q8 : ((8 : Int) != 0) = true := rfl
  have EW := hid hW
  clear hW
  go_wp2_with fail
  rw [EW.out]
  clear EW
  go_cut [13, 10] from 18 (fun s1 s2 wx => MetB V7 wx s1 (0) (max k k + 1) ∧ s2 = .int .i64 8)
  case first =>
    have GR : Hid (Below V7.heap.size V7 V7) := Below.refl _ _
    refine wp_region_tail (fun w' => w'.cell? ⟨w.heap.size + 1 + 1, 0, none⟩ = some (.bool ns) ∧ w'.cell? ⟨w.heap.size + 1 + 1, 1, none⟩ = some (.slice ads xs.length cs) ∧ w'.cell? ⟨w.heap.size, 0, none⟩ = some (.bool na) ∧ w'.cell? ⟨w.heap.size, 1, none⟩ = some (.slice ada xa.length ca) ∧ w'.cell? ⟨w5.heap.size, 0, none⟩ = some (.bool ng) ∧ w'.cell? ⟨w5.heap.size, 1, none⟩ = some (.slice adg xg.length qg)) 10 (by kernel_rfl) ?_
    obtain ⟨D9, hD⟩ : ∃ D9, V7.drew = D9 := ⟨_, rfl⟩
    have b : Below V7.heap.size V7 D9 := by rw [← hD]; exact (Below.refl _ _).drew
    rw [hD]
    clear hD
    replace Za := hid (Za.out.now b)
    replace Zb := hid (Zb.out.now b)
    replace Zs := hid (Zs.out.now b)
    replace Zt := hid (Zt.out.now b)
    replace Zg := hid (Zg.out.now b)
    replace Zx := hid (Zx.out.now b)
    replace Pa := hid (Pa.out.step b)
    replace Pb := hid (Pb.out.step b)
    replace Ps := hid (Ps.out.step b)
    replace Pt := hid (Pt.out.step b)
    replace PRR := hid (PRR.out.step b)
    replace PRM := hid (PRM.out.step b)
    replace Pg := hid (Pg.out.step b)
    replace Px := hid (Px.out.step b)
    replace G := hid (below_step G.out b)
    replace GR := hid (below_step GR.out b)
    have lz10 := (show Below _ _ _ from b).size
    clear b
    refine wpAnyT_take (i := 0) (oi := { dst := some 35, op := Op.load 25 (Operand.tmp 6), type := 25, pos := "modulo.go:56", after := #[], guard := none }) (v := (.agg #[(.bool ns), (.slice ads xs.length cs)])) rfl (by kernel_rfl) (fun _ _ _ h => h) (Or.inl ⟨by rfl, ?_⟩) ⟨Ps.out.c0, Ps.out.c1, Pa.out.c0, Pa.out.c1, Pg.out.c0, Pg.out.c1⟩ ?_
    · intro w hSw
      (try dsimp only at hSw)
      go_simp
    simp only [Act.put, List.setIfInBounds_toArray, List.set_cons_zero, List.set_cons_succ]
    refine wpAnyT_take (i := 1) (oi := { dst := some 36, op := Op.load 25 (Operand.tmp 4), type := 25, pos := "modulo.go:56", after := #[], guard := none }) (v := (.agg #[(.bool na), (.slice ada xa.length ca)])) rfl (by kernel_rfl) (fun _ _ _ h => h) (Or.inl ⟨by rfl, ?_⟩) ⟨Ps.out.c0, Ps.out.c1, Pa.out.c0, Pa.out.c1, Pg.out.c0, Pg.out.c1⟩ ?_
    · intro w hSw
      (try dsimp only at hSw)
      go_simp
    simp only [Act.put, List.setIfInBounds_toArray, List.set_cons_zero, List.set_cons_succ]
    refine wpAnyT_take (i := 3) (oi := { dst := some 38, op := Op.load 25 (Operand.tmp 11), type := 25, pos := "modulo.go:56", after := #[], guard := none }) (v := (.agg #[(.bool ng), (.slice adg xg.length qg)])) rfl (by kernel_rfl) (fun _ _ _ h => h) (Or.inl ⟨by rfl, ?_⟩) ⟨Ps.out.c0, Ps.out.c1, Pa.out.c0, Pa.out.c1, Pg.out.c0, Pg.out.c1⟩ ?_
    · intro w hSw
      (try dsimp only at hSw)
      go_simp
    simp only [Act.put, List.setIfInBounds_toArray, List.set_cons_zero, List.set_cons_succ]
    refine wpAnyT_two (i := 2) (j := 8) (oi := { dst := some 37, op := Op.call { callee := Callee.value (Operand.func 38), args := #[Operand.tmp 35, Operand.tmp 36], argTypes := #[25, 25] }, type := 25, pos := "modulo.go:56", after := #[{ on := 0, ground := Ground.data }, { on := 1, ground := Ground.data }], guard := none }) (oj := { dst := some 13, op := Op.alloc 25, type := 0, pos := "modulo.go:56", after := #[], guard := none }) (by kernel_rfl) rfl rfl (fun K hK => ?_) (fun K hK => ?_)
    · skip
      go_simp
      go_at_call 38
      refine (sub_z Zs.out Za.out (by omega) (by omega)).mono ?_
      rintro e w11 ⟨r0, rfl, m0, b⟩
      obtain ⟨nv, xv, adv, qv, rfl, -, -, -, -, -⟩ := id m0
      replace Za := hid (Za.out.now b)
      replace Zb := hid (Zb.out.now b)
      replace Zs := hid (Zs.out.now b)
      replace Zt := hid (Zt.out.now b)
      replace Zg := hid (Zg.out.now b)
      replace Zx := hid (Zx.out.now b)
      replace Pa := hid (Pa.out.step b)
      replace Pb := hid (Pb.out.step b)
      replace Ps := hid (Ps.out.step b)
      replace Pt := hid (Pt.out.step b)
      replace PRR := hid (PRR.out.step b)
      replace PRM := hid (PRM.out.step b)
      replace Pg := hid (Pg.out.step b)
      replace Px := hid (Px.out.step b)
      replace G := hid (below_step G.out b)
      replace GR := hid (below_step GR.out b)
      have lz12 := (show Below _ _ _ from b).size
      have Zv := hid m0
      clear b m0
      refine hK.out _ _ (fun _ => ⟨Ps.out.c0, Ps.out.c1, Pa.out.c0, Pa.out.c1, Pg.out.c0, Pg.out.c1⟩) ?_
      clear hK
      refine wpAnyT_two (i := 4) (j := 8) (oi := { dst := some 39, op := Op.call { callee := Callee.value (Operand.func 30), args := #[Operand.tmp 37, Operand.tmp 38], argTypes := #[25, 25] }, type := 47, pos := "modulo.go:56", after := #[{ on := 2, ground := Ground.data }, { on := 3, ground := Ground.data }, { on := 2, ground := Ground.chain }], guard := none }) (oj := { dst := some 13, op := Op.alloc 25, type := 0, pos := "modulo.go:56", after := #[], guard := none }) (by kernel_rfl) rfl rfl (fun K hK => ?_) (fun K hK => ?_)
      · skip
        go_simp
        go_at_call 30
        refine (exact_no Zv.out.zi Zg.out.zi QG.out.1 (by omega) (by omega) QG.out.2).mono ?_
        rintro e w13 ⟨r0, rfl, m0, b⟩
        obtain ⟨nu, xu, adu, qu, rfl, -, -, -, -, -⟩ := id m0
        replace Za := hid (Za.out.now b)
        replace Zb := hid (Zb.out.now b)
        replace Zs := hid (Zs.out.now b)
        replace Zt := hid (Zt.out.now b)
        replace Zg := hid (Zg.out.now b)
        replace Zx := hid (Zx.out.now b)
        replace Zv := hid (Zv.out.now b)
        replace Pa := hid (Pa.out.step b)
        replace Pb := hid (Pb.out.step b)
        replace Ps := hid (Ps.out.step b)
        replace Pt := hid (Pt.out.step b)
        replace PRR := hid (PRR.out.step b)
        replace PRM := hid (PRM.out.step b)
        replace Pg := hid (Pg.out.step b)
        replace Px := hid (Px.out.step b)
        replace G := hid (below_step G.out b)
        replace GR := hid (below_step GR.out b)
        have lz14 := (show Below _ _ _ from b).size
        have Zu := hid m0
        clear b m0
        refine hK.out _ _ (fun _ => ⟨Ps.out.c0, Ps.out.c1, Pa.out.c0, Pa.out.c1, Pg.out.c0, Pg.out.c1⟩) ?_
        clear hK
        refine wpAnyT_take (i := 5) (oi := { dst := some 34, op := Op.move (Operand.tmp 39), type := 47, pos := "modulo.go:56", after := #[{ on := 4, ground := Ground.data }], guard := none }) (v := (.tuple #[(.agg #[.bool nu, .slice adu xu.length qu]), (.int .i64 8)])) rfl (by kernel_rfl) (fun _ _ _ h => h) (Or.inl ⟨by rfl, ?_⟩) ⟨Ps.out.c0, Ps.out.c1, Pa.out.c0, Pa.out.c1, Pg.out.c0, Pg.out.c1⟩ ?_
        · intro w hSw
          (try dsimp only at hSw)
          go_simp
        simp only [Act.put, List.setIfInBounds_toArray, List.set_cons_zero, List.set_cons_succ]
        refine wpAnyT_take (i := 6) (oi := { dst := some 40, op := Op.extract (Operand.tmp 34) 0, type := 25, pos := "modulo.go:56", after := #[{ on := 5, ground := Ground.data }], guard := none }) (v := (.agg #[.bool nu, .slice adu xu.length qu])) rfl (by kernel_rfl) (fun _ _ _ h => h) (Or.inl ⟨by rfl, ?_⟩) ⟨Ps.out.c0, Ps.out.c1, Pa.out.c0, Pa.out.c1, Pg.out.c0, Pg.out.c1⟩ ?_
        · intro w hSw
          (try dsimp only at hSw)
          go_simp
        simp only [Act.put, List.setIfInBounds_toArray, List.set_cons_zero, List.set_cons_succ]
        refine wpAnyT_take (i := 7) (oi := { dst := some 41, op := Op.extract (Operand.tmp 34) 1, type := 38, pos := "modulo.go:56", after := #[{ on := 5, ground := Ground.data }, { on := 9, ground := Ground.gcOnly Departure.lateStores }], guard := none }) (v := (.int .i64 8)) rfl (by kernel_rfl) (fun _ _ _ h => h) (Or.inl ⟨by rfl, ?_⟩) ⟨Ps.out.c0, Ps.out.c1, Pa.out.c0, Pa.out.c1, Pg.out.c0, Pg.out.c1⟩ ?_
        · intro w hSw
          (try dsimp only at hSw)
          go_simp
        simp only [Act.put, List.setIfInBounds_toArray, List.set_cons_zero, List.set_cons_succ]
        refine wpAnyT_one (i := 8) (o := { dst := some 13, op := Op.alloc 25, type := 0, pos := "modulo.go:56", after := #[], guard := none }) (by kernel_rfl) rfl (fun K hK => ?_)
        go_simp
        obtain ⟨V15, hW⟩ : ∃ V15, w13.alloc zbox = V15 := ⟨_, rfl⟩
        obtain ⟨kW, sz15⟩ := alloc1 w13 zbox
        rw [hW] at kW sz15
        replace Za := hid (Za.out.now kW)
        replace Zb := hid (Zb.out.now kW)
        replace Zs := hid (Zs.out.now kW)
        replace Zt := hid (Zt.out.now kW)
        replace Zg := hid (Zg.out.now kW)
        replace Zx := hid (Zx.out.now kW)
        replace Zv := hid (Zv.out.now kW)
        replace Zu := hid (Zu.out.now kW)
        replace Pa := hid (Pa.out.step kW)
        replace Pb := hid (Pb.out.step kW)
        replace Ps := hid (Ps.out.step kW)
        replace Pt := hid (Pt.out.step kW)
        replace PRR := hid (PRR.out.step kW)
        replace PRM := hid (PRM.out.step kW)
        replace Pg := hid (Pg.out.step kW)
        replace Px := hid (Px.out.step kW)
        replace G := hid (below_step G.out kW)
        replace GR := hid (below_step GR.out kW)
        have lz16 := (show Below _ _ _ from kW).size
        have PN13 : Hid (Duo V15 (w13.heap.size) (.bool false) (.slice none 0 0)) := by unfold Hid; rw [← hW]; exact duo_at rfl
        rw [hW]
        clear hW kW
        refine hK.out _ _ (fun _ => ⟨Ps.out.c0, Ps.out.c1, Pa.out.c0, Pa.out.c1, Pg.out.c0, Pg.out.c1⟩) ?_
        clear hK
        try simp only [Act.put]
        refine wpAnyT_one (i := 9) (o := { dst := none, op := Op.store 25 (Operand.tmp 13) (Operand.tmp 40), type := 0, pos := "modulo.go:56", after := #[{ on := 8, ground := Ground.data }, { on := 6, ground := Ground.data }, { on := 4, ground := Ground.chain }, { on := 0, ground := Ground.phase }, { on := 1, ground := Ground.phase }, { on := 2, ground := Ground.phase }, { on := 3, ground := Ground.phase }, { on := 4, ground := Ground.phase }, { on := 5, ground := Ground.phase }, { on := 6, ground := Ground.phase }, { on := 7, ground := Ground.textOnly Departure.lateStores }, { on := 8, ground := Ground.phase }], guard := none }) (by kernel_rfl) rfl (fun K hK => ?_)
        have cN130 := PN13.out.c0
        have cN131 := PN13.out.c1
        have fN130 := PN13.out.fz 0
        have fN131 := PN13.out.fz 1
        go_simp
        clear cN130 cN131 fN130 fN131
        obtain ⟨V17, hW⟩ : ∃ V17, (V15.setCell ⟨w13.heap.size, 0, none⟩ (.bool nu)).setCell ⟨w13.heap.size, 1, none⟩ (.slice adu xu.length qu) = V17 := ⟨_, rfl⟩
        replace Za := hid ((Za.out).wk ((PN13.out).wk (.bool nu) (.slice adu xu.length qu)))
        replace Zb := hid ((Zb.out).wk ((PN13.out).wk (.bool nu) (.slice adu xu.length qu)))
        replace Zs := hid ((Zs.out).wk ((PN13.out).wk (.bool nu) (.slice adu xu.length qu)))
        replace Zt := hid ((Zt.out).wk ((PN13.out).wk (.bool nu) (.slice adu xu.length qu)))
        replace Zg := hid ((Zg.out).box (PN13.out) (.bool nu) (.slice adu xu.length qu))
        replace Zx := hid ((Zx.out).box (PN13.out) (.bool nu) (.slice adu xu.length qu))
        replace Zv := hid ((Zv.out).box (PN13.out) (.bool nu) (.slice adu xu.length qu))
        replace Zu := hid ((Zu.out).box (PN13.out) (.bool nu) (.slice adu xu.length qu))
        replace Pa := hid ((Pa.out).box (b' := w13.heap.size) (by omega) (.bool nu) (.slice adu xu.length qu))
        replace Pb := hid ((Pb.out).box (b' := w13.heap.size) (by omega) (.bool nu) (.slice adu xu.length qu))
        replace Ps := hid ((Ps.out).box (b' := w13.heap.size) (by omega) (.bool nu) (.slice adu xu.length qu))
        replace Pt := hid ((Pt.out).box (b' := w13.heap.size) (by omega) (.bool nu) (.slice adu xu.length qu))
        replace PRR := hid ((PRR.out).box (b' := w13.heap.size) (by omega) (.bool nu) (.slice adu xu.length qu))
        replace PRM := hid ((PRM.out).box (b' := w13.heap.size) (by omega) (.bool nu) (.slice adu xu.length qu))
        replace Pg := hid ((Pg.out).box (b' := w13.heap.size) (by omega) (.bool nu) (.slice adu xu.length qu))
        replace Px := hid ((Px.out).box (b' := w13.heap.size) (by omega) (.bool nu) (.slice adu xu.length qu))
        replace PN13 := hid ((PN13.out).set (.bool nu) (.slice adu xu.length qu))
        replace G : Hid (Below w.heap.size w (((V15.setCell ⟨w13.heap.size, 0, none⟩ (.bool nu)).setCell ⟨w13.heap.size, 1, none⟩ (.slice adu xu.length qu)))) := bset (bset (G.out) (by omega)) (by omega)
        replace GR : Hid (Below V7.heap.size V7 (((V15.setCell ⟨w13.heap.size, 0, none⟩ (.bool nu)).setCell ⟨w13.heap.size, 1, none⟩ (.slice adu xu.length qu)))) := bset (bset (GR.out) (by omega)) (by omega)
        have sz17 : V17.heap.size = V15.heap.size := by rw [← hW]; simp
        rw [hW] at Za Zb Zs Zt Zg Zx Zv Zu Pa Pb Ps Pt PRR PRM Pg Px PN13 G GR
        rw [hW]
        clear hW
        refine hK.out _ _ (fun _ => ⟨Ps.out.c0, Ps.out.c1, Pa.out.c0, Pa.out.c1, Pg.out.c0, Pg.out.c1⟩) ?_
        clear hK
        try simp only [Act.put]
        refine wpAnyT_one (i := 10) (o := { dst := some 10, op := Op.assign (Operand.tmp 41), type := 38, pos := "modulo.go:56", after := #[{ on := 7, ground := Ground.data }, { on := 9, ground := Ground.chain }, { on := 0, ground := Ground.phase }, { on := 1, ground := Ground.phase }, { on := 2, ground := Ground.phase }, { on := 3, ground := Ground.phase }, { on := 4, ground := Ground.phase }, { on := 5, ground := Ground.phase }, { on := 6, ground := Ground.phase }, { on := 7, ground := Ground.phase }, { on := 8, ground := Ground.phase }, { on := 9, ground := Ground.phase }], guard := none }) (by kernel_rfl) rfl (fun K hK => ?_)
        go_simp
        refine hK.out _ _ (fun h => absurd h (by decide)) ?_
        clear hK
        try simp only [Act.put]
        refine wpAnyT_done (by kernel_rfl) ?_ _
        go_wp2_with fail
        go_meet
        exact ⟨⟨_, _, _, _, _, rfl, GR.out, by omega, PN13.out.blk, PN13.out, Zu.out.mono (by omega)⟩, rfl⟩
      · skip
        go_simp
        obtain ⟨V18, hW⟩ : ∃ V18, w11.alloc zbox = V18 := ⟨_, rfl⟩
        obtain ⟨kW, sz18⟩ := alloc1 w11 zbox
        rw [hW] at kW sz18
        replace Za := hid (Za.out.now kW)
        replace Zb := hid (Zb.out.now kW)
        replace Zs := hid (Zs.out.now kW)
        replace Zt := hid (Zt.out.now kW)
        replace Zg := hid (Zg.out.now kW)
        replace Zx := hid (Zx.out.now kW)
        replace Zv := hid (Zv.out.now kW)
        replace Pa := hid (Pa.out.step kW)
        replace Pb := hid (Pb.out.step kW)
        replace Ps := hid (Ps.out.step kW)
        replace Pt := hid (Pt.out.step kW)
        replace PRR := hid (PRR.out.step kW)
        replace PRM := hid (PRM.out.step kW)
        replace Pg := hid (Pg.out.step kW)
        replace Px := hid (Px.out.step kW)
        replace G := hid (below_step G.out kW)
        replace GR := hid (below_step GR.out kW)
        have lz19 := (show Below _ _ _ from kW).size
        have PN13 : Hid (Duo V18 (w11.heap.size) (.bool false) (.slice none 0 0)) := by unfold Hid; rw [← hW]; exact duo_at rfl
        rw [hW]
        clear hW kW
        refine hK.out _ _ (fun _ => ⟨Ps.out.c0, Ps.out.c1, Pa.out.c0, Pa.out.c1, Pg.out.c0, Pg.out.c1⟩) ?_
        clear hK
        try simp only [Act.put]
        refine wpAnyT_one (i := 4) (o := { dst := some 39, op := Op.call { callee := Callee.value (Operand.func 30), args := #[Operand.tmp 37, Operand.tmp 38], argTypes := #[25, 25] }, type := 47, pos := "modulo.go:56", after := #[{ on := 2, ground := Ground.data }, { on := 3, ground := Ground.data }, { on := 2, ground := Ground.chain }], guard := none }) (by kernel_rfl) rfl (fun K hK => ?_)
        go_simp
        go_at_call 30
        refine (exact_no Zv.out.zi Zg.out.zi QG.out.1 (by omega) (by omega) QG.out.2).mono ?_
        rintro e w20 ⟨r0, rfl, m0, b⟩
        obtain ⟨nu, xu, adu, qu, rfl, -, -, -, -, -⟩ := id m0
        replace Za := hid (Za.out.now b)
        replace Zb := hid (Zb.out.now b)
        replace Zs := hid (Zs.out.now b)
        replace Zt := hid (Zt.out.now b)
        replace Zg := hid (Zg.out.now b)
        replace Zx := hid (Zx.out.now b)
        replace Zv := hid (Zv.out.now b)
        replace Pa := hid (Pa.out.step b)
        replace Pb := hid (Pb.out.step b)
        replace Ps := hid (Ps.out.step b)
        replace Pt := hid (Pt.out.step b)
        replace PRR := hid (PRR.out.step b)
        replace PRM := hid (PRM.out.step b)
        replace Pg := hid (Pg.out.step b)
        replace Px := hid (Px.out.step b)
        replace PN13 := hid (PN13.out.step b)
        replace G := hid (below_step G.out b)
        replace GR := hid (below_step GR.out b)
        have lz21 := (show Below _ _ _ from b).size
        have Zu := hid m0
        clear b m0
        refine hK.out _ _ (fun _ => ⟨Ps.out.c0, Ps.out.c1, Pa.out.c0, Pa.out.c1, Pg.out.c0, Pg.out.c1⟩) ?_
        clear hK
        refine wpAnyT_take (i := 5) (oi := { dst := some 34, op := Op.move (Operand.tmp 39), type := 47, pos := "modulo.go:56", after := #[{ on := 4, ground := Ground.data }], guard := none }) (v := (.tuple #[(.agg #[.bool nu, .slice adu xu.length qu]), (.int .i64 8)])) rfl (by kernel_rfl) (fun _ _ _ h => h) (Or.inl ⟨by rfl, ?_⟩) ⟨Ps.out.c0, Ps.out.c1, Pa.out.c0, Pa.out.c1, Pg.out.c0, Pg.out.c1⟩ ?_
        · intro w hSw
          (try dsimp only at hSw)
          go_simp
        simp only [Act.put, List.setIfInBounds_toArray, List.set_cons_zero, List.set_cons_succ]
        refine wpAnyT_take (i := 6) (oi := { dst := some 40, op := Op.extract (Operand.tmp 34) 0, type := 25, pos := "modulo.go:56", after := #[{ on := 5, ground := Ground.data }], guard := none }) (v := (.agg #[.bool nu, .slice adu xu.length qu])) rfl (by kernel_rfl) (fun _ _ _ h => h) (Or.inl ⟨by rfl, ?_⟩) ⟨Ps.out.c0, Ps.out.c1, Pa.out.c0, Pa.out.c1, Pg.out.c0, Pg.out.c1⟩ ?_
        · intro w hSw
          (try dsimp only at hSw)
          go_simp
        simp only [Act.put, List.setIfInBounds_toArray, List.set_cons_zero, List.set_cons_succ]
        refine wpAnyT_take (i := 7) (oi := { dst := some 41, op := Op.extract (Operand.tmp 34) 1, type := 38, pos := "modulo.go:56", after := #[{ on := 5, ground := Ground.data }, { on := 9, ground := Ground.gcOnly Departure.lateStores }], guard := none }) (v := (.int .i64 8)) rfl (by kernel_rfl) (fun _ _ _ h => h) (Or.inl ⟨by rfl, ?_⟩) ⟨Ps.out.c0, Ps.out.c1, Pa.out.c0, Pa.out.c1, Pg.out.c0, Pg.out.c1⟩ ?_
        · intro w hSw
          (try dsimp only at hSw)
          go_simp
        simp only [Act.put, List.setIfInBounds_toArray, List.set_cons_zero, List.set_cons_succ]
        refine wpAnyT_one (i := 9) (o := { dst := none, op := Op.store 25 (Operand.tmp 13) (Operand.tmp 40), type := 0, pos := "modulo.go:56", after := #[{ on := 8, ground := Ground.data }, { on := 6, ground := Ground.data }, { on := 4, ground := Ground.chain }, { on := 0, ground := Ground.phase }, { on := 1, ground := Ground.phase }, { on := 2, ground := Ground.phase }, { on := 3, ground := Ground.phase }, { on := 4, ground := Ground.phase }, { on := 5, ground := Ground.phase }, { on := 6, ground := Ground.phase }, { on := 7, ground := Ground.textOnly Departure.lateStores }, { on := 8, ground := Ground.phase }], guard := none }) (by kernel_rfl) rfl (fun K hK => ?_)
        have cN130 := PN13.out.c0
        have cN131 := PN13.out.c1
        have fN130 := PN13.out.fz 0
        have fN131 := PN13.out.fz 1
        go_simp
        clear cN130 cN131 fN130 fN131
        obtain ⟨V22, hW⟩ : ∃ V22, (w20.setCell ⟨w11.heap.size, 0, none⟩ (.bool nu)).setCell ⟨w11.heap.size, 1, none⟩ (.slice adu xu.length qu) = V22 := ⟨_, rfl⟩
        replace Za := hid ((Za.out).wk ((PN13.out).wk (.bool nu) (.slice adu xu.length qu)))
        replace Zb := hid ((Zb.out).wk ((PN13.out).wk (.bool nu) (.slice adu xu.length qu)))
        replace Zs := hid ((Zs.out).wk ((PN13.out).wk (.bool nu) (.slice adu xu.length qu)))
        replace Zt := hid ((Zt.out).wk ((PN13.out).wk (.bool nu) (.slice adu xu.length qu)))
        replace Zg := hid ((Zg.out).box (PN13.out) (.bool nu) (.slice adu xu.length qu))
        replace Zx := hid ((Zx.out).box (PN13.out) (.bool nu) (.slice adu xu.length qu))
        replace Zv := hid ((Zv.out).box (PN13.out) (.bool nu) (.slice adu xu.length qu))
        replace Zu := hid ((Zu.out).box (PN13.out) (.bool nu) (.slice adu xu.length qu))
        replace Pa := hid ((Pa.out).box (b' := w11.heap.size) (by omega) (.bool nu) (.slice adu xu.length qu))
        replace Pb := hid ((Pb.out).box (b' := w11.heap.size) (by omega) (.bool nu) (.slice adu xu.length qu))
        replace Ps := hid ((Ps.out).box (b' := w11.heap.size) (by omega) (.bool nu) (.slice adu xu.length qu))
        replace Pt := hid ((Pt.out).box (b' := w11.heap.size) (by omega) (.bool nu) (.slice adu xu.length qu))
        replace PRR := hid ((PRR.out).box (b' := w11.heap.size) (by omega) (.bool nu) (.slice adu xu.length qu))
        replace PRM := hid ((PRM.out).box (b' := w11.heap.size) (by omega) (.bool nu) (.slice adu xu.length qu))
        replace Pg := hid ((Pg.out).box (b' := w11.heap.size) (by omega) (.bool nu) (.slice adu xu.length qu))
        replace Px := hid ((Px.out).box (b' := w11.heap.size) (by omega) (.bool nu) (.slice adu xu.length qu))
        replace PN13 := hid ((PN13.out).set (.bool nu) (.slice adu xu.length qu))
        replace G : Hid (Below w.heap.size w (((w20.setCell ⟨w11.heap.size, 0, none⟩ (.bool nu)).setCell ⟨w11.heap.size, 1, none⟩ (.slice adu xu.length qu)))) := bset (bset (G.out) (by omega)) (by omega)
        replace GR : Hid (Below V7.heap.size V7 (((w20.setCell ⟨w11.heap.size, 0, none⟩ (.bool nu)).setCell ⟨w11.heap.size, 1, none⟩ (.slice adu xu.length qu)))) := bset (bset (GR.out) (by omega)) (by omega)
        have sz22 : V22.heap.size = w20.heap.size := by rw [← hW]; simp
        rw [hW] at Za Zb Zs Zt Zg Zx Zv Zu Pa Pb Ps Pt PRR PRM Pg Px PN13 G GR
        rw [hW]
        clear hW
        refine hK.out _ _ (fun _ => ⟨Ps.out.c0, Ps.out.c1, Pa.out.c0, Pa.out.c1, Pg.out.c0, Pg.out.c1⟩) ?_
        clear hK
        try simp only [Act.put]
        refine wpAnyT_one (i := 10) (o := { dst := some 10, op := Op.assign (Operand.tmp 41), type := 38, pos := "modulo.go:56", after := #[{ on := 7, ground := Ground.data }, { on := 9, ground := Ground.chain }, { on := 0, ground := Ground.phase }, { on := 1, ground := Ground.phase }, { on := 2, ground := Ground.phase }, { on := 3, ground := Ground.phase }, { on := 4, ground := Ground.phase }, { on := 5, ground := Ground.phase }, { on := 6, ground := Ground.phase }, { on := 7, ground := Ground.phase }, { on := 8, ground := Ground.phase }, { on := 9, ground := Ground.phase }], guard := none }) (by kernel_rfl) rfl (fun K hK => ?_)
        go_simp
        refine hK.out _ _ (fun h => absurd h (by decide)) ?_
        clear hK
        try simp only [Act.put]
        refine wpAnyT_done (by kernel_rfl) ?_ _
        go_wp2_with fail
        go_meet
        exact ⟨⟨_, _, _, _, _, rfl, GR.out, by omega, PN13.out.blk, PN13.out, Zu.out.mono (by omega)⟩, rfl⟩
    · skip
      go_simp
      obtain ⟨V23, hW⟩ : ∃ V23, D9.alloc zbox = V23 := ⟨_, rfl⟩
      obtain ⟨kW, sz23⟩ := alloc1 D9 zbox
      rw [hW] at kW sz23
      replace Za := hid (Za.out.now kW)
      replace Zb := hid (Zb.out.now kW)
      replace Zs := hid (Zs.out.now kW)
      replace Zt := hid (Zt.out.now kW)
      replace Zg := hid (Zg.out.now kW)
      replace Zx := hid (Zx.out.now kW)
      replace Pa := hid (Pa.out.step kW)
      replace Pb := hid (Pb.out.step kW)
      replace Ps := hid (Ps.out.step kW)
      replace Pt := hid (Pt.out.step kW)
      replace PRR := hid (PRR.out.step kW)
      replace PRM := hid (PRM.out.step kW)
      replace Pg := hid (Pg.out.step kW)
      replace Px := hid (Px.out.step kW)
      replace G := hid (below_step G.out kW)
      replace GR := hid (below_step GR.out kW)
      have lz24 := (show Below _ _ _ from kW).size
      have PN13 : Hid (Duo V23 (D9.heap.size) (.bool false) (.slice none 0 0)) := by unfold Hid; rw [← hW]; exact duo_at rfl
      rw [hW]
      clear hW kW
      refine hK.out _ _ (fun _ => ⟨Ps.out.c0, Ps.out.c1, Pa.out.c0, Pa.out.c1, Pg.out.c0, Pg.out.c1⟩) ?_
      clear hK
      try simp only [Act.put]
      refine wpAnyT_one (i := 2) (o := { dst := some 37, op := Op.call { callee := Callee.value (Operand.func 38), args := #[Operand.tmp 35, Operand.tmp 36], argTypes := #[25, 25] }, type := 25, pos := "modulo.go:56", after := #[{ on := 0, ground := Ground.data }, { on := 1, ground := Ground.data }], guard := none }) (by kernel_rfl) rfl (fun K hK => ?_)
      go_simp
      go_at_call 38
      refine (sub_z Zs.out Za.out (by omega) (by omega)).mono ?_
      rintro e w25 ⟨r0, rfl, m0, b⟩
      obtain ⟨nv, xv, adv, qv, rfl, -, -, -, -, -⟩ := id m0
      replace Za := hid (Za.out.now b)
      replace Zb := hid (Zb.out.now b)
      replace Zs := hid (Zs.out.now b)
      replace Zt := hid (Zt.out.now b)
      replace Zg := hid (Zg.out.now b)
      replace Zx := hid (Zx.out.now b)
      replace Pa := hid (Pa.out.step b)
      replace Pb := hid (Pb.out.step b)
      replace Ps := hid (Ps.out.step b)
      replace Pt := hid (Pt.out.step b)
      replace PRR := hid (PRR.out.step b)
      replace PRM := hid (PRM.out.step b)
      replace Pg := hid (Pg.out.step b)
      replace Px := hid (Px.out.step b)
      replace PN13 := hid (PN13.out.step b)
      replace G := hid (below_step G.out b)
      replace GR := hid (below_step GR.out b)
      have lz26 := (show Below _ _ _ from b).size
      have Zv := hid m0
      clear b m0
      refine hK.out _ _ (fun _ => ⟨Ps.out.c0, Ps.out.c1, Pa.out.c0, Pa.out.c1, Pg.out.c0, Pg.out.c1⟩) ?_
      clear hK
      refine wpAnyT_one (i := 4) (o := { dst := some 39, op := Op.call { callee := Callee.value (Operand.func 30), args := #[Operand.tmp 37, Operand.tmp 38], argTypes := #[25, 25] }, type := 47, pos := "modulo.go:56", after := #[{ on := 2, ground := Ground.data }, { on := 3, ground := Ground.data }, { on := 2, ground := Ground.chain }], guard := none }) (by kernel_rfl) rfl (fun K hK => ?_)
      go_simp
      go_at_call 30
      refine (exact_no Zv.out.zi Zg.out.zi QG.out.1 (by omega) (by omega) QG.out.2).mono ?_
      rintro e w27 ⟨r0, rfl, m0, b⟩
      obtain ⟨nu, xu, adu, qu, rfl, -, -, -, -, -⟩ := id m0
      replace Za := hid (Za.out.now b)
      replace Zb := hid (Zb.out.now b)
      replace Zs := hid (Zs.out.now b)
      replace Zt := hid (Zt.out.now b)
      replace Zg := hid (Zg.out.now b)
      replace Zx := hid (Zx.out.now b)
      replace Zv := hid (Zv.out.now b)
      replace Pa := hid (Pa.out.step b)
      replace Pb := hid (Pb.out.step b)
      replace Ps := hid (Ps.out.step b)
      replace Pt := hid (Pt.out.step b)
      replace PRR := hid (PRR.out.step b)
      replace PRM := hid (PRM.out.step b)
      replace Pg := hid (Pg.out.step b)
      replace Px := hid (Px.out.step b)
      replace PN13 := hid (PN13.out.step b)
      replace G := hid (below_step G.out b)
      replace GR := hid (below_step GR.out b)
      have lz28 := (show Below _ _ _ from b).size
      have Zu := hid m0
      clear b m0
      refine hK.out _ _ (fun _ => ⟨Ps.out.c0, Ps.out.c1, Pa.out.c0, Pa.out.c1, Pg.out.c0, Pg.out.c1⟩) ?_
      clear hK
      refine wpAnyT_take (i := 5) (oi := { dst := some 34, op := Op.move (Operand.tmp 39), type := 47, pos := "modulo.go:56", after := #[{ on := 4, ground := Ground.data }], guard := none }) (v := (.tuple #[(.agg #[.bool nu, .slice adu xu.length qu]), (.int .i64 8)])) rfl (by kernel_rfl) (fun _ _ _ h => h) (Or.inl ⟨by rfl, ?_⟩) ⟨Ps.out.c0, Ps.out.c1, Pa.out.c0, Pa.out.c1, Pg.out.c0, Pg.out.c1⟩ ?_
      · intro w hSw
        (try dsimp only at hSw)
        go_simp
      simp only [Act.put, List.setIfInBounds_toArray, List.set_cons_zero, List.set_cons_succ]
      refine wpAnyT_take (i := 6) (oi := { dst := some 40, op := Op.extract (Operand.tmp 34) 0, type := 25, pos := "modulo.go:56", after := #[{ on := 5, ground := Ground.data }], guard := none }) (v := (.agg #[.bool nu, .slice adu xu.length qu])) rfl (by kernel_rfl) (fun _ _ _ h => h) (Or.inl ⟨by rfl, ?_⟩) ⟨Ps.out.c0, Ps.out.c1, Pa.out.c0, Pa.out.c1, Pg.out.c0, Pg.out.c1⟩ ?_
      · intro w hSw
        (try dsimp only at hSw)
        go_simp
      simp only [Act.put, List.setIfInBounds_toArray, List.set_cons_zero, List.set_cons_succ]
      refine wpAnyT_take (i := 7) (oi := { dst := some 41, op := Op.extract (Operand.tmp 34) 1, type := 38, pos := "modulo.go:56", after := #[{ on := 5, ground := Ground.data }, { on := 9, ground := Ground.gcOnly Departure.lateStores }], guard := none }) (v := (.int .i64 8)) rfl (by kernel_rfl) (fun _ _ _ h => h) (Or.inl ⟨by rfl, ?_⟩) ⟨Ps.out.c0, Ps.out.c1, Pa.out.c0, Pa.out.c1, Pg.out.c0, Pg.out.c1⟩ ?_
      · intro w hSw
        (try dsimp only at hSw)
        go_simp
      simp only [Act.put, List.setIfInBounds_toArray, List.set_cons_zero, List.set_cons_succ]
      refine wpAnyT_one (i := 9) (o := { dst := none, op := Op.store 25 (Operand.tmp 13) (Operand.tmp 40), type := 0, pos := "modulo.go:56", after := #[{ on := 8, ground := Ground.data }, { on := 6, ground := Ground.data }, { on := 4, ground := Ground.chain }, { on := 0, ground := Ground.phase }, { on := 1, ground := Ground.phase }, { on := 2, ground := Ground.phase }, { on := 3, ground := Ground.phase }, { on := 4, ground := Ground.phase }, { on := 5, ground := Ground.phase }, { on := 6, ground := Ground.phase }, { on := 7, ground := Ground.textOnly Departure.lateStores }, { on := 8, ground := Ground.phase }], guard := none }) (by kernel_rfl) rfl (fun K hK => ?_)
      have cN130 := PN13.out.c0
      have cN131 := PN13.out.c1
      have fN130 := PN13.out.fz 0
      have fN131 := PN13.out.fz 1
      go_simp
      clear cN130 cN131 fN130 fN131
      obtain ⟨V29, hW⟩ : ∃ V29, (w27.setCell ⟨D9.heap.size, 0, none⟩ (.bool nu)).setCell ⟨D9.heap.size, 1, none⟩ (.slice adu xu.length qu) = V29 := ⟨_, rfl⟩
      replace Za := hid ((Za.out).wk ((PN13.out).wk (.bool nu) (.slice adu xu.length qu)))
      replace Zb := hid ((Zb.out).wk ((PN13.out).wk (.bool nu) (.slice adu xu.length qu)))
      replace Zs := hid ((Zs.out).wk ((PN13.out).wk (.bool nu) (.slice adu xu.length qu)))
      replace Zt := hid ((Zt.out).wk ((PN13.out).wk (.bool nu) (.slice adu xu.length qu)))
      replace Zg := hid ((Zg.out).box (PN13.out) (.bool nu) (.slice adu xu.length qu))
      replace Zx := hid ((Zx.out).box (PN13.out) (.bool nu) (.slice adu xu.length qu))
      replace Zv := hid ((Zv.out).box (PN13.out) (.bool nu) (.slice adu xu.length qu))
      replace Zu := hid ((Zu.out).box (PN13.out) (.bool nu) (.slice adu xu.length qu))
      replace Pa := hid ((Pa.out).box (b' := D9.heap.size) (by omega) (.bool nu) (.slice adu xu.length qu))
      replace Pb := hid ((Pb.out).box (b' := D9.heap.size) (by omega) (.bool nu) (.slice adu xu.length qu))
      replace Ps := hid ((Ps.out).box (b' := D9.heap.size) (by omega) (.bool nu) (.slice adu xu.length qu))
      replace Pt := hid ((Pt.out).box (b' := D9.heap.size) (by omega) (.bool nu) (.slice adu xu.length qu))
      replace PRR := hid ((PRR.out).box (b' := D9.heap.size) (by omega) (.bool nu) (.slice adu xu.length qu))
      replace PRM := hid ((PRM.out).box (b' := D9.heap.size) (by omega) (.bool nu) (.slice adu xu.length qu))
      replace Pg := hid ((Pg.out).box (b' := D9.heap.size) (by omega) (.bool nu) (.slice adu xu.length qu))
      replace Px := hid ((Px.out).box (b' := D9.heap.size) (by omega) (.bool nu) (.slice adu xu.length qu))
      replace PN13 := hid ((PN13.out).set (.bool nu) (.slice adu xu.length qu))
      replace G : Hid (Below w.heap.size w (((w27.setCell ⟨D9.heap.size, 0, none⟩ (.bool nu)).setCell ⟨D9.heap.size, 1, none⟩ (.slice adu xu.length qu)))) := bset (bset (G.out) (by omega)) (by omega)
      replace GR : Hid (Below V7.heap.size V7 (((w27.setCell ⟨D9.heap.size, 0, none⟩ (.bool nu)).setCell ⟨D9.heap.size, 1, none⟩ (.slice adu xu.length qu)))) := bset (bset (GR.out) (by omega)) (by omega)
      have sz29 : V29.heap.size = w27.heap.size := by rw [← hW]; simp
      rw [hW] at Za Zb Zs Zt Zg Zx Zv Zu Pa Pb Ps Pt PRR PRM Pg Px PN13 G GR
      rw [hW]
      clear hW
      refine hK.out _ _ (fun _ => ⟨Ps.out.c0, Ps.out.c1, Pa.out.c0, Pa.out.c1, Pg.out.c0, Pg.out.c1⟩) ?_
      clear hK
      try simp only [Act.put]
      refine wpAnyT_one (i := 10) (o := { dst := some 10, op := Op.assign (Operand.tmp 41), type := 38, pos := "modulo.go:56", after := #[{ on := 7, ground := Ground.data }, { on := 9, ground := Ground.chain }, { on := 0, ground := Ground.phase }, { on := 1, ground := Ground.phase }, { on := 2, ground := Ground.phase }, { on := 3, ground := Ground.phase }, { on := 4, ground := Ground.phase }, { on := 5, ground := Ground.phase }, { on := 6, ground := Ground.phase }, { on := 7, ground := Ground.phase }, { on := 8, ground := Ground.phase }, { on := 9, ground := Ground.phase }], guard := none }) (by kernel_rfl) rfl (fun K hK => ?_)
      go_simp
      refine hK.out _ _ (fun h => absurd h (by decide)) ?_
      clear hK
      try simp only [Act.put]
      refine wpAnyT_done (by kernel_rfl) ?_ _
      go_wp2_with fail
      go_meet
      exact ⟨⟨_, _, _, _, _, rfl, GR.out, by omega, PN13.out.blk, PN13.out, Zu.out.mono (by omega)⟩, rfl⟩
  case rest =>
  obtain ⟨⟨bku, nu, xu, adu, qu, rfl, b, geu, ltu, p, m⟩, rfl⟩ := hcut
  replace Za := hid (Za.out.now b)
  replace Zb := hid (Zb.out.now b)
  replace Zs := hid (Zs.out.now b)
  replace Zt := hid (Zt.out.now b)
  replace Zg := hid (Zg.out.now b)
  replace Zx := hid (Zx.out.now b)
  replace Pa := hid (Pa.out.step b)
  replace Pb := hid (Pb.out.step b)
  replace Ps := hid (Ps.out.step b)
  replace Pt := hid (Pt.out.step b)
  replace PRR := hid (PRR.out.step b)
  replace PRM := hid (PRM.out.step b)
  replace Pg := hid (Pg.out.step b)
  replace Px := hid (Px.out.step b)
  replace G := hid (below_step G.out b)
  have lz31 := (show Below _ _ _ from b).size
  have Zu := hid m
  have Pu := hid p
  clear b p m
  generalize wc = C31 at *
  have cRR0 := PRR.out.c0
  have cRR1 := PRR.out.c1
  have cRM0 := PRM.out.c0
  have cRM1 := PRM.out.c1
  have fRR0 := PRR.out.fz 0
  have fRR1 := PRR.out.fz 1
  have fRM0 := PRM.out.fz 0
  have fRM1 := PRM.out.fz 1
  go_wp2
  refine bodyPost_ret (zback2 Try.results33 ((PRR.out.set _ _).box (by omega) _ _) ((PRM.out.box (by omega) _ _).set _ _) _ (by rfl) (by rfl) (by rfl)) rfl ?_
  exact ⟨_, _, rfl, zm_nil _ _ _, zm_nil _ _ _, bset (bset (bset (bset G.out (by omega)) (by omega)) (by omega)) (by omega)⟩

set_option maxHeartbeats 25600000 in
set_option maxRecDepth 100000 in
theorem crt_some {w : World} {va vb vs vt : Value} {A B S T : Int} {k : Nat} (ha : Zi w va A k) (hb : Zi w vb B k) (hs : Zi w vs S k) (ht : Zi w vt T k) (h1 : 1 ≤ k) (hk : k ≤ 17179869184) {kb kt : Nat} (hB : B ≠ 0) (hT : T ≠ 0) (hg : (Int.gcd B T : Int) ∣ S - A) (LB : (B.natAbs : Int) < pw kb) (LT : (T.natAbs : Int) < pw kt) :
    Calls Try.prog 33 #[va, vb, vs, vt] w (Crted w A B S T (kb + kt)) := by
  have HB := hid hB
  clear hB
  have HT := hid hT
  clear hT
  have HG := hid hg
  clear hg
  have HLB := hid LB
  have HLT := hid LT
  clear LB LT
  have q0 : ((0 : Int) == 0) = true := rfl
  have HSB : Hid (∀ w' v, Zi w' v B k → _) := fun (w' : World) (v : Value) (h : Zi w' v B k) => sign_z h
  have qB : (cmpI B 0 == 0) = false := by rw [beq_eq_false_iff_ne]; exact fun e => HB.out (cmpI_zero e)
  generalize cmpI B 0 = SB at *
  have HST : Hid (∀ w' v, Zi w' v T k → _) := fun (w' : World) (v : Value) (h : Zi w' v T k) => sign_z h
  have qT : (cmpI T 0 == 0) = false := by rw [beq_eq_false_iff_ne]; exact fun e => HT.out (cmpI_zero e)
  generalize cmpI T 0 = ST at *
  have za0 := ha
  obtain ⟨na, xa, ada, ca, rfl, -, -, -⟩ := ha
  have zb0 := hb
  obtain ⟨nb, xb, adb, cb, rfl, -, -, -⟩ := hb
  have zs0 := hs
  obtain ⟨ns, xs, ads, cs, rfl, -, -, -⟩ := hs
  have zt0 := ht
  obtain ⟨nt, xt, adt, ct, rfl, -, -, -⟩ := ht
  obtain ⟨W0, hW⟩ : ∃ W0, (((((w.alloc (duo (.bool na) (.slice ada xa.length ca))).alloc (duo (.bool nb) (.slice adb xb.length cb))).alloc (duo (.bool ns) (.slice ads xs.length cs))).alloc (duo (.bool nt) (.slice adt xt.length ct))).alloc zbox).alloc zbox = W0 := ⟨_, rfl⟩
  obtain ⟨b0, sz0⟩ := alloc6 w (duo (.bool na) (.slice ada xa.length ca)) (duo (.bool nb) (.slice adb xb.length cb)) (duo (.bool ns) (.slice ads xs.length cs)) (duo (.bool nt) (.slice adt xt.length ct)) zbox zbox
  rw [hW] at b0 sz0
  have Pa : Hid (Duo W0 (w.heap.size) (.bool na) (.slice ada xa.length ca)) := by unfold Hid; rw [← hW]; exact duo_late (duo_late (duo_late (duo_late (duo_late (duo_at (by simp)) _) _) _) _) _
  have Pb : Hid (Duo W0 (w.heap.size + 1) (.bool nb) (.slice adb xb.length cb)) := by unfold Hid; rw [← hW]; exact duo_late (duo_late (duo_late (duo_late (duo_at (by simp)) _) _) _) _
  have Ps : Hid (Duo W0 (w.heap.size + 1 + 1) (.bool ns) (.slice ads xs.length cs)) := by unfold Hid; rw [← hW]; exact duo_late (duo_late (duo_late (duo_at (by simp)) _) _) _
  have Pt : Hid (Duo W0 (w.heap.size + 1 + 1 + 1) (.bool nt) (.slice adt xt.length ct)) := by unfold Hid; rw [← hW]; exact duo_late (duo_late (duo_at (by simp)) _) _
  have PRR : Hid (Duo W0 (w.heap.size + 1 + 1 + 1 + 1) (.bool false) (.slice none 0 0)) := by unfold Hid; rw [← hW]; exact duo_late (duo_at (by simp)) _
  have PRM : Hid (Duo W0 (w.heap.size + 1 + 1 + 1 + 1 + 1) (.bool false) (.slice none 0 0)) := by unfold Hid; rw [← hW]; exact duo_at (by simp)
  have Za := hid (za0.now b0)
  clear za0
  have Zb := hid (zb0.now b0)
  clear zb0
  have Zs := hid (zs0.now b0)
  clear zs0
  have Zt := hid (zt0.now b0)
  clear zt0
  have G := hid b0
  clear b0
  have EW := hid hW
  clear hW
  go_enter Try.func33, Try.ntmps33
  have cb0 := Pb.out.c0
  have cb1 := Pb.out.c1
  rw [← EW.out] at cb0 cb1
  go_wp2_with fail
  rw [EW.out]
  clear EW
  clear cb0 cb1
  refine (HSB.out _ _ Zb.out).mono ?_
  rintro e w1 ⟨rfl, b⟩
  replace Za := hid (Za.out.now b)
  replace Zb := hid (Zb.out.now b)
  replace Zs := hid (Zs.out.now b)
  replace Zt := hid (Zt.out.now b)
  replace Pa := hid (Pa.out.step b)
  replace Pb := hid (Pb.out.step b)
  replace Ps := hid (Ps.out.step b)
  replace Pt := hid (Pt.out.step b)
  replace PRR := hid (PRR.out.step b)
  replace PRM := hid (PRM.out.step b)
  replace G := hid (below_step G.out b)
  have lz2 := (show Below _ _ _ from b).size
  clear b 
  have ct0 := Pt.out.c0
  have ct1 := Pt.out.c1
  go_wp2_with fail
  clear ct0 ct1
  refine (HST.out _ _ Zt.out).mono ?_
  rintro e w3 ⟨rfl, b⟩
  replace Za := hid (Za.out.now b)
  replace Zb := hid (Zb.out.now b)
  replace Zs := hid (Zs.out.now b)
  replace Zt := hid (Zt.out.now b)
  replace Pa := hid (Pa.out.step b)
  replace Pb := hid (Pb.out.step b)
  replace Ps := hid (Ps.out.step b)
  replace Pt := hid (Pt.out.step b)
  replace PRR := hid (PRR.out.step b)
  replace PRM := hid (PRM.out.step b)
  replace G := hid (below_step G.out b)
  have lz4 := (show Below _ _ _ from b).size
  clear b 
  clear HST HSB
  have cb0 := Pb.out.c0
  have cb1 := Pb.out.c1
  have ct0 := Pt.out.c0
  have ct1 := Pt.out.c1
  go_wp2_with fail
  clear cb0 cb1 ct0 ct1
  refine (lm_z Zb.out Zt.out h1 (by omega) HT.out).mono ?_
  rintro e w5 ⟨zg, zx, zy, r0, r1, hx, rfl, m0, m1, b⟩
  obtain ⟨ng, xg, adg, qg, rfl, -, -, -, -, -⟩ := id m0
  obtain ⟨nx, xx, adx, qx, rfl, -, -, -, -, -⟩ := id m1
  have HX := hid hx
  clear hx
  replace Za := hid (Za.out.now b)
  replace Zb := hid (Zb.out.now b)
  replace Zs := hid (Zs.out.now b)
  replace Zt := hid (Zt.out.now b)
  replace Pa := hid (Pa.out.step b)
  replace Pb := hid (Pb.out.step b)
  replace Ps := hid (Ps.out.step b)
  replace Pt := hid (Pt.out.step b)
  replace PRR := hid (PRR.out.step b)
  replace PRM := hid (PRM.out.step b)
  replace G := hid (below_step G.out b)
  have lz6 := (show Below _ _ _ from b).size
  have Zg := hid m0
  have Zx := hid m1
  clear b m0 m1
  obtain ⟨V7, hW⟩ : ∃ V7, (w5.alloc (duo (.bool ng) (.slice adg xg.length qg))).alloc (duo (.bool nx) (.slice adx xx.length qx)) = V7 := ⟨_, rfl⟩
  obtain ⟨kW, sz7⟩ := alloc2 w5 (duo (.bool ng) (.slice adg xg.length qg)) (duo (.bool nx) (.slice adx xx.length qx))
  rw [hW] at kW sz7
  replace Za := hid (Za.out.now kW)
  replace Zb := hid (Zb.out.now kW)
  replace Zs := hid (Zs.out.now kW)
  replace Zt := hid (Zt.out.now kW)
  replace Zg := hid (Zg.out.now kW)
  replace Zx := hid (Zx.out.now kW)
  replace Pa := hid (Pa.out.step kW)
  replace Pb := hid (Pb.out.step kW)
  replace Ps := hid (Ps.out.step kW)
  replace Pt := hid (Pt.out.step kW)
  replace PRR := hid (PRR.out.step kW)
  replace PRM := hid (PRM.out.step kW)
  replace G := hid (below_step G.out kW)
  have lz8 := (show Below _ _ _ from kW).size
  have Pg : Hid (Duo V7 (w5.heap.size) (.bool ng) (.slice adg xg.length qg)) := by unfold Hid; rw [← hW]; exact duo_late (duo_at (by simp)) _
  have Px : Hid (Duo V7 (w5.heap.size + 1) (.bool nx) (.slice adx xx.length qx)) := by unfold Hid; rw [← hW]; exact duo_at (by simp)
  clear kW
  have CS := hid (crtS HB.out HT.out HX.out HG.out)
  have FM : Hid ((((B * T.tdiv zg).natAbs : Int).natAbs : Int) < pw (kb + kt)) := crt_fit HLB.out HLT.out CS.out.rl
  have LTK : Hid (((T.tdiv zg).natAbs : Int) < pw k) := by
    have := Zt.out.lt
    have := CS.out.rl
    unfold Hid
    omega
  have FR : Hid ((((((((S - A).tdiv zg * zx) % T.tdiv zg) * B + A) % ((B * T.tdiv zg).natAbs : Int)).natAbs : Int)) < pw (kb + kt)) := by
    have h1 := CS.out.v.lo
    have h2 := CS.out.v.hi
    have h3 := FM.out
    unfold Hid
    omega
  have q0' : ((0 : Int) != 0) = false := rfl
  have EW := hid hW
  clear hW
  go_wp2_with fail
  rw [EW.out]
  clear EW
  go_cut [13, 10] from 18 (fun s1 s2 wx => MetB V7 wx s1 ((S - A).tdiv zg) (max k k + 1) ∧ s2 = .int .i64 0)
  case first =>
    have GR : Hid (Below V7.heap.size V7 V7) := Below.refl _ _
    refine wp_region_tail (fun w' => w'.cell? ⟨w.heap.size + 1 + 1, 0, none⟩ = some (.bool ns) ∧ w'.cell? ⟨w.heap.size + 1 + 1, 1, none⟩ = some (.slice ads xs.length cs) ∧ w'.cell? ⟨w.heap.size, 0, none⟩ = some (.bool na) ∧ w'.cell? ⟨w.heap.size, 1, none⟩ = some (.slice ada xa.length ca) ∧ w'.cell? ⟨w5.heap.size, 0, none⟩ = some (.bool ng) ∧ w'.cell? ⟨w5.heap.size, 1, none⟩ = some (.slice adg xg.length qg)) 10 (by kernel_rfl) ?_
    obtain ⟨D9, hD⟩ : ∃ D9, V7.drew = D9 := ⟨_, rfl⟩
    have b : Below V7.heap.size V7 D9 := by rw [← hD]; exact (Below.refl _ _).drew
    rw [hD]
    clear hD
    replace Za := hid (Za.out.now b)
    replace Zb := hid (Zb.out.now b)
    replace Zs := hid (Zs.out.now b)
    replace Zt := hid (Zt.out.now b)
    replace Zg := hid (Zg.out.now b)
    replace Zx := hid (Zx.out.now b)
    replace Pa := hid (Pa.out.step b)
    replace Pb := hid (Pb.out.step b)
    replace Ps := hid (Ps.out.step b)
    replace Pt := hid (Pt.out.step b)
    replace PRR := hid (PRR.out.step b)
    replace PRM := hid (PRM.out.step b)
    replace Pg := hid (Pg.out.step b)
    replace Px := hid (Px.out.step b)
    replace G := hid (below_step G.out b)
    replace GR := hid (below_step GR.out b)
    have lz10 := (show Below _ _ _ from b).size
    clear b
    refine wpAnyT_take (i := 0) (oi := { dst := some 35, op := Op.load 25 (Operand.tmp 6), type := 25, pos := "modulo.go:56", after := #[], guard := none }) (v := (.agg #[(.bool ns), (.slice ads xs.length cs)])) rfl (by kernel_rfl) (fun _ _ _ h => h) (Or.inl ⟨by rfl, ?_⟩) ⟨Ps.out.c0, Ps.out.c1, Pa.out.c0, Pa.out.c1, Pg.out.c0, Pg.out.c1⟩ ?_
    · intro w hSw
      (try dsimp only at hSw)
      go_simp
    simp only [Act.put, List.setIfInBounds_toArray, List.set_cons_zero, List.set_cons_succ]
    refine wpAnyT_take (i := 1) (oi := { dst := some 36, op := Op.load 25 (Operand.tmp 4), type := 25, pos := "modulo.go:56", after := #[], guard := none }) (v := (.agg #[(.bool na), (.slice ada xa.length ca)])) rfl (by kernel_rfl) (fun _ _ _ h => h) (Or.inl ⟨by rfl, ?_⟩) ⟨Ps.out.c0, Ps.out.c1, Pa.out.c0, Pa.out.c1, Pg.out.c0, Pg.out.c1⟩ ?_
    · intro w hSw
      (try dsimp only at hSw)
      go_simp
    simp only [Act.put, List.setIfInBounds_toArray, List.set_cons_zero, List.set_cons_succ]
    refine wpAnyT_take (i := 3) (oi := { dst := some 38, op := Op.load 25 (Operand.tmp 11), type := 25, pos := "modulo.go:56", after := #[], guard := none }) (v := (.agg #[(.bool ng), (.slice adg xg.length qg)])) rfl (by kernel_rfl) (fun _ _ _ h => h) (Or.inl ⟨by rfl, ?_⟩) ⟨Ps.out.c0, Ps.out.c1, Pa.out.c0, Pa.out.c1, Pg.out.c0, Pg.out.c1⟩ ?_
    · intro w hSw
      (try dsimp only at hSw)
      go_simp
    simp only [Act.put, List.setIfInBounds_toArray, List.set_cons_zero, List.set_cons_succ]
    refine wpAnyT_two (i := 2) (j := 8) (oi := { dst := some 37, op := Op.call { callee := Callee.value (Operand.func 38), args := #[Operand.tmp 35, Operand.tmp 36], argTypes := #[25, 25] }, type := 25, pos := "modulo.go:56", after := #[{ on := 0, ground := Ground.data }, { on := 1, ground := Ground.data }], guard := none }) (oj := { dst := some 13, op := Op.alloc 25, type := 0, pos := "modulo.go:56", after := #[], guard := none }) (by kernel_rfl) rfl rfl (fun K hK => ?_) (fun K hK => ?_)
    · skip
      go_simp
      go_at_call 38
      refine (sub_z Zs.out Za.out (by omega) (by omega)).mono ?_
      rintro e w11 ⟨r0, rfl, m0, b⟩
      obtain ⟨nv, xv, adv, qv, rfl, -, -, -, -, -⟩ := id m0
      replace Za := hid (Za.out.now b)
      replace Zb := hid (Zb.out.now b)
      replace Zs := hid (Zs.out.now b)
      replace Zt := hid (Zt.out.now b)
      replace Zg := hid (Zg.out.now b)
      replace Zx := hid (Zx.out.now b)
      replace Pa := hid (Pa.out.step b)
      replace Pb := hid (Pb.out.step b)
      replace Ps := hid (Ps.out.step b)
      replace Pt := hid (Pt.out.step b)
      replace PRR := hid (PRR.out.step b)
      replace PRM := hid (PRM.out.step b)
      replace Pg := hid (Pg.out.step b)
      replace Px := hid (Px.out.step b)
      replace G := hid (below_step G.out b)
      replace GR := hid (below_step GR.out b)
      have lz12 := (show Below _ _ _ from b).size
      have Zv := hid m0
      clear b m0
      refine hK.out _ _ (fun _ => ⟨Ps.out.c0, Ps.out.c1, Pa.out.c0, Pa.out.c1, Pg.out.c0, Pg.out.c1⟩) ?_
      clear hK
      refine wpAnyT_two (i := 4) (j := 8) (oi := { dst := some 39, op := Op.call { callee := Callee.value (Operand.func 30), args := #[Operand.tmp 37, Operand.tmp 38], argTypes := #[25, 25] }, type := 47, pos := "modulo.go:56", after := #[{ on := 2, ground := Ground.data }, { on := 3, ground := Ground.data }, { on := 2, ground := Ground.chain }], guard := none }) (oj := { dst := some 13, op := Op.alloc 25, type := 0, pos := "modulo.go:56", after := #[], guard := none }) (by kernel_rfl) rfl rfl (fun K hK => ?_) (fun K hK => ?_)
      · skip
        go_simp
        go_at_call 30
        refine (exact_yes Zv.out.zi Zg.out.zi CS.out.g0 (by omega) (by omega) CS.out.st).mono ?_
        rintro e w13 ⟨r0, rfl, m0, b⟩
        obtain ⟨nu, xu, adu, qu, rfl, -, -, -, -, -⟩ := id m0
        replace Za := hid (Za.out.now b)
        replace Zb := hid (Zb.out.now b)
        replace Zs := hid (Zs.out.now b)
        replace Zt := hid (Zt.out.now b)
        replace Zg := hid (Zg.out.now b)
        replace Zx := hid (Zx.out.now b)
        replace Zv := hid (Zv.out.now b)
        replace Pa := hid (Pa.out.step b)
        replace Pb := hid (Pb.out.step b)
        replace Ps := hid (Ps.out.step b)
        replace Pt := hid (Pt.out.step b)
        replace PRR := hid (PRR.out.step b)
        replace PRM := hid (PRM.out.step b)
        replace Pg := hid (Pg.out.step b)
        replace Px := hid (Px.out.step b)
        replace G := hid (below_step G.out b)
        replace GR := hid (below_step GR.out b)
        have lz14 := (show Below _ _ _ from b).size
        have Zu := hid m0
        clear b m0
        refine hK.out _ _ (fun _ => ⟨Ps.out.c0, Ps.out.c1, Pa.out.c0, Pa.out.c1, Pg.out.c0, Pg.out.c1⟩) ?_
        clear hK
        refine wpAnyT_take (i := 5) (oi := { dst := some 34, op := Op.move (Operand.tmp 39), type := 47, pos := "modulo.go:56", after := #[{ on := 4, ground := Ground.data }], guard := none }) (v := (.tuple #[(.agg #[.bool nu, .slice adu xu.length qu]), (.int .i64 0)])) rfl (by kernel_rfl) (fun _ _ _ h => h) (Or.inl ⟨by rfl, ?_⟩) ⟨Ps.out.c0, Ps.out.c1, Pa.out.c0, Pa.out.c1, Pg.out.c0, Pg.out.c1⟩ ?_
        · intro w hSw
          (try dsimp only at hSw)
          go_simp
        simp only [Act.put, List.setIfInBounds_toArray, List.set_cons_zero, List.set_cons_succ]
        refine wpAnyT_take (i := 6) (oi := { dst := some 40, op := Op.extract (Operand.tmp 34) 0, type := 25, pos := "modulo.go:56", after := #[{ on := 5, ground := Ground.data }], guard := none }) (v := (.agg #[.bool nu, .slice adu xu.length qu])) rfl (by kernel_rfl) (fun _ _ _ h => h) (Or.inl ⟨by rfl, ?_⟩) ⟨Ps.out.c0, Ps.out.c1, Pa.out.c0, Pa.out.c1, Pg.out.c0, Pg.out.c1⟩ ?_
        · intro w hSw
          (try dsimp only at hSw)
          go_simp
        simp only [Act.put, List.setIfInBounds_toArray, List.set_cons_zero, List.set_cons_succ]
        refine wpAnyT_take (i := 7) (oi := { dst := some 41, op := Op.extract (Operand.tmp 34) 1, type := 38, pos := "modulo.go:56", after := #[{ on := 5, ground := Ground.data }, { on := 9, ground := Ground.gcOnly Departure.lateStores }], guard := none }) (v := (.int .i64 0)) rfl (by kernel_rfl) (fun _ _ _ h => h) (Or.inl ⟨by rfl, ?_⟩) ⟨Ps.out.c0, Ps.out.c1, Pa.out.c0, Pa.out.c1, Pg.out.c0, Pg.out.c1⟩ ?_
        · intro w hSw
          (try dsimp only at hSw)
          go_simp
        simp only [Act.put, List.setIfInBounds_toArray, List.set_cons_zero, List.set_cons_succ]
        refine wpAnyT_one (i := 8) (o := { dst := some 13, op := Op.alloc 25, type := 0, pos := "modulo.go:56", after := #[], guard := none }) (by kernel_rfl) rfl (fun K hK => ?_)
        go_simp
        obtain ⟨V15, hW⟩ : ∃ V15, w13.alloc zbox = V15 := ⟨_, rfl⟩
        obtain ⟨kW, sz15⟩ := alloc1 w13 zbox
        rw [hW] at kW sz15
        replace Za := hid (Za.out.now kW)
        replace Zb := hid (Zb.out.now kW)
        replace Zs := hid (Zs.out.now kW)
        replace Zt := hid (Zt.out.now kW)
        replace Zg := hid (Zg.out.now kW)
        replace Zx := hid (Zx.out.now kW)
        replace Zv := hid (Zv.out.now kW)
        replace Zu := hid (Zu.out.now kW)
        replace Pa := hid (Pa.out.step kW)
        replace Pb := hid (Pb.out.step kW)
        replace Ps := hid (Ps.out.step kW)
        replace Pt := hid (Pt.out.step kW)
        replace PRR := hid (PRR.out.step kW)
        replace PRM := hid (PRM.out.step kW)
        replace Pg := hid (Pg.out.step kW)
        replace Px := hid (Px.out.step kW)
        replace G := hid (below_step G.out kW)
        replace GR := hid (below_step GR.out kW)
        have lz16 := (show Below _ _ _ from kW).size
        have PN13 : Hid (Duo V15 (w13.heap.size) (.bool false) (.slice none 0 0)) := by unfold Hid; rw [← hW]; exact duo_at rfl
        rw [hW]
        clear hW kW
        refine hK.out _ _ (fun _ => ⟨Ps.out.c0, Ps.out.c1, Pa.out.c0, Pa.out.c1, Pg.out.c0, Pg.out.c1⟩) ?_
        clear hK
        try simp only [Act.put]
        refine wpAnyT_one (i := 9) (o := { dst := none, op := Op.store 25 (Operand.tmp 13) (Operand.tmp 40), type := 0, pos := "modulo.go:56", after := #[{ on := 8, ground := Ground.data }, { on := 6, ground := Ground.data }, { on := 4, ground := Ground.chain }, { on := 0, ground := Ground.phase }, { on := 1, ground := Ground.phase }, { on := 2, ground := Ground.phase }, { on := 3, ground := Ground.phase }, { on := 4, ground := Ground.phase }, { on := 5, ground := Ground.phase }, { on := 6, ground := Ground.phase }, { on := 7, ground := Ground.textOnly Departure.lateStores }, { on := 8, ground := Ground.phase }], guard := none }) (by kernel_rfl) rfl (fun K hK => ?_)
        have cN130 := PN13.out.c0
        have cN131 := PN13.out.c1
        have fN130 := PN13.out.fz 0
        have fN131 := PN13.out.fz 1
        go_simp
        clear cN130 cN131 fN130 fN131
        obtain ⟨V17, hW⟩ : ∃ V17, (V15.setCell ⟨w13.heap.size, 0, none⟩ (.bool nu)).setCell ⟨w13.heap.size, 1, none⟩ (.slice adu xu.length qu) = V17 := ⟨_, rfl⟩
        replace Za := hid ((Za.out).wk ((PN13.out).wk (.bool nu) (.slice adu xu.length qu)))
        replace Zb := hid ((Zb.out).wk ((PN13.out).wk (.bool nu) (.slice adu xu.length qu)))
        replace Zs := hid ((Zs.out).wk ((PN13.out).wk (.bool nu) (.slice adu xu.length qu)))
        replace Zt := hid ((Zt.out).wk ((PN13.out).wk (.bool nu) (.slice adu xu.length qu)))
        replace Zg := hid ((Zg.out).box (PN13.out) (.bool nu) (.slice adu xu.length qu))
        replace Zx := hid ((Zx.out).box (PN13.out) (.bool nu) (.slice adu xu.length qu))
        replace Zv := hid ((Zv.out).box (PN13.out) (.bool nu) (.slice adu xu.length qu))
        replace Zu := hid ((Zu.out).box (PN13.out) (.bool nu) (.slice adu xu.length qu))
        replace Pa := hid ((Pa.out).box (b' := w13.heap.size) (by omega) (.bool nu) (.slice adu xu.length qu))
        replace Pb := hid ((Pb.out).box (b' := w13.heap.size) (by omega) (.bool nu) (.slice adu xu.length qu))
        replace Ps := hid ((Ps.out).box (b' := w13.heap.size) (by omega) (.bool nu) (.slice adu xu.length qu))
        replace Pt := hid ((Pt.out).box (b' := w13.heap.size) (by omega) (.bool nu) (.slice adu xu.length qu))
        replace PRR := hid ((PRR.out).box (b' := w13.heap.size) (by omega) (.bool nu) (.slice adu xu.length qu))
        replace PRM := hid ((PRM.out).box (b' := w13.heap.size) (by omega) (.bool nu) (.slice adu xu.length qu))
        replace Pg := hid ((Pg.out).box (b' := w13.heap.size) (by omega) (.bool nu) (.slice adu xu.length qu))
        replace Px := hid ((Px.out).box (b' := w13.heap.size) (by omega) (.bool nu) (.slice adu xu.length qu))
        replace PN13 := hid ((PN13.out).set (.bool nu) (.slice adu xu.length qu))
        replace G : Hid (Below w.heap.size w (((V15.setCell ⟨w13.heap.size, 0, none⟩ (.bool nu)).setCell ⟨w13.heap.size, 1, none⟩ (.slice adu xu.length qu)))) := bset (bset (G.out) (by omega)) (by omega)
        replace GR : Hid (Below V7.heap.size V7 (((V15.setCell ⟨w13.heap.size, 0, none⟩ (.bool nu)).setCell ⟨w13.heap.size, 1, none⟩ (.slice adu xu.length qu)))) := bset (bset (GR.out) (by omega)) (by omega)
        have sz17 : V17.heap.size = V15.heap.size := by rw [← hW]; simp
        rw [hW] at Za Zb Zs Zt Zg Zx Zv Zu Pa Pb Ps Pt PRR PRM Pg Px PN13 G GR
        rw [hW]
        clear hW
        refine hK.out _ _ (fun _ => ⟨Ps.out.c0, Ps.out.c1, Pa.out.c0, Pa.out.c1, Pg.out.c0, Pg.out.c1⟩) ?_
        clear hK
        try simp only [Act.put]
        refine wpAnyT_one (i := 10) (o := { dst := some 10, op := Op.assign (Operand.tmp 41), type := 38, pos := "modulo.go:56", after := #[{ on := 7, ground := Ground.data }, { on := 9, ground := Ground.chain }, { on := 0, ground := Ground.phase }, { on := 1, ground := Ground.phase }, { on := 2, ground := Ground.phase }, { on := 3, ground := Ground.phase }, { on := 4, ground := Ground.phase }, { on := 5, ground := Ground.phase }, { on := 6, ground := Ground.phase }, { on := 7, ground := Ground.phase }, { on := 8, ground := Ground.phase }, { on := 9, ground := Ground.phase }], guard := none }) (by kernel_rfl) rfl (fun K hK => ?_)
        go_simp
        refine hK.out _ _ (fun h => absurd h (by decide)) ?_
        clear hK
        try simp only [Act.put]
        refine wpAnyT_done (by kernel_rfl) ?_ _
        go_wp2_with fail
        go_meet
        exact ⟨⟨_, _, _, _, _, rfl, GR.out, by omega, PN13.out.blk, PN13.out, Zu.out.mono (by omega)⟩, rfl⟩
      · skip
        go_simp
        obtain ⟨V18, hW⟩ : ∃ V18, w11.alloc zbox = V18 := ⟨_, rfl⟩
        obtain ⟨kW, sz18⟩ := alloc1 w11 zbox
        rw [hW] at kW sz18
        replace Za := hid (Za.out.now kW)
        replace Zb := hid (Zb.out.now kW)
        replace Zs := hid (Zs.out.now kW)
        replace Zt := hid (Zt.out.now kW)
        replace Zg := hid (Zg.out.now kW)
        replace Zx := hid (Zx.out.now kW)
        replace Zv := hid (Zv.out.now kW)
        replace Pa := hid (Pa.out.step kW)
        replace Pb := hid (Pb.out.step kW)
        replace Ps := hid (Ps.out.step kW)
        replace Pt := hid (Pt.out.step kW)
        replace PRR := hid (PRR.out.step kW)
        replace PRM := hid (PRM.out.step kW)
        replace Pg := hid (Pg.out.step kW)
        replace Px := hid (Px.out.step kW)
        replace G := hid (below_step G.out kW)
        replace GR := hid (below_step GR.out kW)
        have lz19 := (show Below _ _ _ from kW).size
        have PN13 : Hid (Duo V18 (w11.heap.size) (.bool false) (.slice none 0 0)) := by unfold Hid; rw [← hW]; exact duo_at rfl
        rw [hW]
        clear hW kW
        refine hK.out _ _ (fun _ => ⟨Ps.out.c0, Ps.out.c1, Pa.out.c0, Pa.out.c1, Pg.out.c0, Pg.out.c1⟩) ?_
        clear hK
        try simp only [Act.put]
        refine wpAnyT_one (i := 4) (o := { dst := some 39, op := Op.call { callee := Callee.value (Operand.func 30), args := #[Operand.tmp 37, Operand.tmp 38], argTypes := #[25, 25] }, type := 47, pos := "modulo.go:56", after := #[{ on := 2, ground := Ground.data }, { on := 3, ground := Ground.data }, { on := 2, ground := Ground.chain }], guard := none }) (by kernel_rfl) rfl (fun K hK => ?_)
        go_simp
        go_at_call 30
        refine (exact_yes Zv.out.zi Zg.out.zi CS.out.g0 (by omega) (by omega) CS.out.st).mono ?_
        rintro e w20 ⟨r0, rfl, m0, b⟩
        obtain ⟨nu, xu, adu, qu, rfl, -, -, -, -, -⟩ := id m0
        replace Za := hid (Za.out.now b)
        replace Zb := hid (Zb.out.now b)
        replace Zs := hid (Zs.out.now b)
        replace Zt := hid (Zt.out.now b)
        replace Zg := hid (Zg.out.now b)
        replace Zx := hid (Zx.out.now b)
        replace Zv := hid (Zv.out.now b)
        replace Pa := hid (Pa.out.step b)
        replace Pb := hid (Pb.out.step b)
        replace Ps := hid (Ps.out.step b)
        replace Pt := hid (Pt.out.step b)
        replace PRR := hid (PRR.out.step b)
        replace PRM := hid (PRM.out.step b)
        replace Pg := hid (Pg.out.step b)
        replace Px := hid (Px.out.step b)
        replace PN13 := hid (PN13.out.step b)
        replace G := hid (below_step G.out b)
        replace GR := hid (below_step GR.out b)
        have lz21 := (show Below _ _ _ from b).size
        have Zu := hid m0
        clear b m0
        refine hK.out _ _ (fun _ => ⟨Ps.out.c0, Ps.out.c1, Pa.out.c0, Pa.out.c1, Pg.out.c0, Pg.out.c1⟩) ?_
        clear hK
        refine wpAnyT_take (i := 5) (oi := { dst := some 34, op := Op.move (Operand.tmp 39), type := 47, pos := "modulo.go:56", after := #[{ on := 4, ground := Ground.data }], guard := none }) (v := (.tuple #[(.agg #[.bool nu, .slice adu xu.length qu]), (.int .i64 0)])) rfl (by kernel_rfl) (fun _ _ _ h => h) (Or.inl ⟨by rfl, ?_⟩) ⟨Ps.out.c0, Ps.out.c1, Pa.out.c0, Pa.out.c1, Pg.out.c0, Pg.out.c1⟩ ?_
        · intro w hSw
          (try dsimp only at hSw)
          go_simp
        simp only [Act.put, List.setIfInBounds_toArray, List.set_cons_zero, List.set_cons_succ]
        refine wpAnyT_take (i := 6) (oi := { dst := some 40, op := Op.extract (Operand.tmp 34) 0, type := 25, pos := "modulo.go:56", after := #[{ on := 5, ground := Ground.data }], guard := none }) (v := (.agg #[.bool nu, .slice adu xu.length qu])) rfl (by kernel_rfl) (fun _ _ _ h => h) (Or.inl ⟨by rfl, ?_⟩) ⟨Ps.out.c0, Ps.out.c1, Pa.out.c0, Pa.out.c1, Pg.out.c0, Pg.out.c1⟩ ?_
        · intro w hSw
          (try dsimp only at hSw)
          go_simp
        simp only [Act.put, List.setIfInBounds_toArray, List.set_cons_zero, List.set_cons_succ]
        refine wpAnyT_take (i := 7) (oi := { dst := some 41, op := Op.extract (Operand.tmp 34) 1, type := 38, pos := "modulo.go:56", after := #[{ on := 5, ground := Ground.data }, { on := 9, ground := Ground.gcOnly Departure.lateStores }], guard := none }) (v := (.int .i64 0)) rfl (by kernel_rfl) (fun _ _ _ h => h) (Or.inl ⟨by rfl, ?_⟩) ⟨Ps.out.c0, Ps.out.c1, Pa.out.c0, Pa.out.c1, Pg.out.c0, Pg.out.c1⟩ ?_
        · intro w hSw
          (try dsimp only at hSw)
          go_simp
        simp only [Act.put, List.setIfInBounds_toArray, List.set_cons_zero, List.set_cons_succ]
        refine wpAnyT_one (i := 9) (o := { dst := none, op := Op.store 25 (Operand.tmp 13) (Operand.tmp 40), type := 0, pos := "modulo.go:56", after := #[{ on := 8, ground := Ground.data }, { on := 6, ground := Ground.data }, { on := 4, ground := Ground.chain }, { on := 0, ground := Ground.phase }, { on := 1, ground := Ground.phase }, { on := 2, ground := Ground.phase }, { on := 3, ground := Ground.phase }, { on := 4, ground := Ground.phase }, { on := 5, ground := Ground.phase }, { on := 6, ground := Ground.phase }, { on := 7, ground := Ground.textOnly Departure.lateStores }, { on := 8, ground := Ground.phase }], guard := none }) (by kernel_rfl) rfl (fun K hK => ?_)
        have cN130 := PN13.out.c0
        have cN131 := PN13.out.c1
        have fN130 := PN13.out.fz 0
        have fN131 := PN13.out.fz 1
        go_simp
        clear cN130 cN131 fN130 fN131
        obtain ⟨V22, hW⟩ : ∃ V22, (w20.setCell ⟨w11.heap.size, 0, none⟩ (.bool nu)).setCell ⟨w11.heap.size, 1, none⟩ (.slice adu xu.length qu) = V22 := ⟨_, rfl⟩
        replace Za := hid ((Za.out).wk ((PN13.out).wk (.bool nu) (.slice adu xu.length qu)))
        replace Zb := hid ((Zb.out).wk ((PN13.out).wk (.bool nu) (.slice adu xu.length qu)))
        replace Zs := hid ((Zs.out).wk ((PN13.out).wk (.bool nu) (.slice adu xu.length qu)))
        replace Zt := hid ((Zt.out).wk ((PN13.out).wk (.bool nu) (.slice adu xu.length qu)))
        replace Zg := hid ((Zg.out).box (PN13.out) (.bool nu) (.slice adu xu.length qu))
        replace Zx := hid ((Zx.out).box (PN13.out) (.bool nu) (.slice adu xu.length qu))
        replace Zv := hid ((Zv.out).box (PN13.out) (.bool nu) (.slice adu xu.length qu))
        replace Zu := hid ((Zu.out).box (PN13.out) (.bool nu) (.slice adu xu.length qu))
        replace Pa := hid ((Pa.out).box (b' := w11.heap.size) (by omega) (.bool nu) (.slice adu xu.length qu))
        replace Pb := hid ((Pb.out).box (b' := w11.heap.size) (by omega) (.bool nu) (.slice adu xu.length qu))
        replace Ps := hid ((Ps.out).box (b' := w11.heap.size) (by omega) (.bool nu) (.slice adu xu.length qu))
        replace Pt := hid ((Pt.out).box (b' := w11.heap.size) (by omega) (.bool nu) (.slice adu xu.length qu))
        replace PRR := hid ((PRR.out).box (b' := w11.heap.size) (by omega) (.bool nu) (.slice adu xu.length qu))
        replace PRM := hid ((PRM.out).box (b' := w11.heap.size) (by omega) (.bool nu) (.slice adu xu.length qu))
        replace Pg := hid ((Pg.out).box (b' := w11.heap.size) (by omega) (.bool nu) (.slice adu xu.length qu))
        replace Px := hid ((Px.out).box (b' := w11.heap.size) (by omega) (.bool nu) (.slice adu xu.length qu))
        replace PN13 := hid ((PN13.out).set (.bool nu) (.slice adu xu.length qu))
        replace G : Hid (Below w.heap.size w (((w20.setCell ⟨w11.heap.size, 0, none⟩ (.bool nu)).setCell ⟨w11.heap.size, 1, none⟩ (.slice adu xu.length qu)))) := bset (bset (G.out) (by omega)) (by omega)
        replace GR : Hid (Below V7.heap.size V7 (((w20.setCell ⟨w11.heap.size, 0, none⟩ (.bool nu)).setCell ⟨w11.heap.size, 1, none⟩ (.slice adu xu.length qu)))) := bset (bset (GR.out) (by omega)) (by omega)
        have sz22 : V22.heap.size = w20.heap.size := by rw [← hW]; simp
        rw [hW] at Za Zb Zs Zt Zg Zx Zv Zu Pa Pb Ps Pt PRR PRM Pg Px PN13 G GR
        rw [hW]
        clear hW
        refine hK.out _ _ (fun _ => ⟨Ps.out.c0, Ps.out.c1, Pa.out.c0, Pa.out.c1, Pg.out.c0, Pg.out.c1⟩) ?_
        clear hK
        try simp only [Act.put]
        refine wpAnyT_one (i := 10) (o := { dst := some 10, op := Op.assign (Operand.tmp 41), type := 38, pos := "modulo.go:56", after := #[{ on := 7, ground := Ground.data }, { on := 9, ground := Ground.chain }, { on := 0, ground := Ground.phase }, { on := 1, ground := Ground.phase }, { on := 2, ground := Ground.phase }, { on := 3, ground := Ground.phase }, { on := 4, ground := Ground.phase }, { on := 5, ground := Ground.phase }, { on := 6, ground := Ground.phase }, { on := 7, ground := Ground.phase }, { on := 8, ground := Ground.phase }, { on := 9, ground := Ground.phase }], guard := none }) (by kernel_rfl) rfl (fun K hK => ?_)
        go_simp
        refine hK.out _ _ (fun h => absurd h (by decide)) ?_
        clear hK
        try simp only [Act.put]
        refine wpAnyT_done (by kernel_rfl) ?_ _
        go_wp2_with fail
        go_meet
        exact ⟨⟨_, _, _, _, _, rfl, GR.out, by omega, PN13.out.blk, PN13.out, Zu.out.mono (by omega)⟩, rfl⟩
    · skip
      go_simp
      obtain ⟨V23, hW⟩ : ∃ V23, D9.alloc zbox = V23 := ⟨_, rfl⟩
      obtain ⟨kW, sz23⟩ := alloc1 D9 zbox
      rw [hW] at kW sz23
      replace Za := hid (Za.out.now kW)
      replace Zb := hid (Zb.out.now kW)
      replace Zs := hid (Zs.out.now kW)
      replace Zt := hid (Zt.out.now kW)
      replace Zg := hid (Zg.out.now kW)
      replace Zx := hid (Zx.out.now kW)
      replace Pa := hid (Pa.out.step kW)
      replace Pb := hid (Pb.out.step kW)
      replace Ps := hid (Ps.out.step kW)
      replace Pt := hid (Pt.out.step kW)
      replace PRR := hid (PRR.out.step kW)
      replace PRM := hid (PRM.out.step kW)
      replace Pg := hid (Pg.out.step kW)
      replace Px := hid (Px.out.step kW)
      replace G := hid (below_step G.out kW)
      replace GR := hid (below_step GR.out kW)
      have lz24 := (show Below _ _ _ from kW).size
      have PN13 : Hid (Duo V23 (D9.heap.size) (.bool false) (.slice none 0 0)) := by unfold Hid; rw [← hW]; exact duo_at rfl
      rw [hW]
      clear hW kW
      refine hK.out _ _ (fun _ => ⟨Ps.out.c0, Ps.out.c1, Pa.out.c0, Pa.out.c1, Pg.out.c0, Pg.out.c1⟩) ?_
      clear hK
      try simp only [Act.put]
      refine wpAnyT_one (i := 2) (o := { dst := some 37, op := Op.call { callee := Callee.value (Operand.func 38), args := #[Operand.tmp 35, Operand.tmp 36], argTypes := #[25, 25] }, type := 25, pos := "modulo.go:56", after := #[{ on := 0, ground := Ground.data }, { on := 1, ground := Ground.data }], guard := none }) (by kernel_rfl) rfl (fun K hK => ?_)
      go_simp
      go_at_call 38
      refine (sub_z Zs.out Za.out (by omega) (by omega)).mono ?_
      rintro e w25 ⟨r0, rfl, m0, b⟩
      obtain ⟨nv, xv, adv, qv, rfl, -, -, -, -, -⟩ := id m0
      replace Za := hid (Za.out.now b)
      replace Zb := hid (Zb.out.now b)
      replace Zs := hid (Zs.out.now b)
      replace Zt := hid (Zt.out.now b)
      replace Zg := hid (Zg.out.now b)
      replace Zx := hid (Zx.out.now b)
      replace Pa := hid (Pa.out.step b)
      replace Pb := hid (Pb.out.step b)
      replace Ps := hid (Ps.out.step b)
      replace Pt := hid (Pt.out.step b)
      replace PRR := hid (PRR.out.step b)
      replace PRM := hid (PRM.out.step b)
      replace Pg := hid (Pg.out.step b)
      replace Px := hid (Px.out.step b)
      replace PN13 := hid (PN13.out.step b)
      replace G := hid (below_step G.out b)
      replace GR := hid (below_step GR.out b)
      have lz26 := (show Below _ _ _ from b).size
      have Zv := hid m0
      clear b m0
      refine hK.out _ _ (fun _ => ⟨Ps.out.c0, Ps.out.c1, Pa.out.c0, Pa.out.c1, Pg.out.c0, Pg.out.c1⟩) ?_
      clear hK
      refine wpAnyT_one (i := 4) (o := { dst := some 39, op := Op.call { callee := Callee.value (Operand.func 30), args := #[Operand.tmp 37, Operand.tmp 38], argTypes := #[25, 25] }, type := 47, pos := "modulo.go:56", after := #[{ on := 2, ground := Ground.data }, { on := 3, ground := Ground.data }, { on := 2, ground := Ground.chain }], guard := none }) (by kernel_rfl) rfl (fun K hK => ?_)
      go_simp
      go_at_call 30
      refine (exact_yes Zv.out.zi Zg.out.zi CS.out.g0 (by omega) (by omega) CS.out.st).mono ?_
      rintro e w27 ⟨r0, rfl, m0, b⟩
      obtain ⟨nu, xu, adu, qu, rfl, -, -, -, -, -⟩ := id m0
      replace Za := hid (Za.out.now b)
      replace Zb := hid (Zb.out.now b)
      replace Zs := hid (Zs.out.now b)
      replace Zt := hid (Zt.out.now b)
      replace Zg := hid (Zg.out.now b)
      replace Zx := hid (Zx.out.now b)
      replace Zv := hid (Zv.out.now b)
      replace Pa := hid (Pa.out.step b)
      replace Pb := hid (Pb.out.step b)
      replace Ps := hid (Ps.out.step b)
      replace Pt := hid (Pt.out.step b)
      replace PRR := hid (PRR.out.step b)
      replace PRM := hid (PRM.out.step b)
      replace Pg := hid (Pg.out.step b)
      replace Px := hid (Px.out.step b)
      replace PN13 := hid (PN13.out.step b)
      replace G := hid (below_step G.out b)
      replace GR := hid (below_step GR.out b)
      have lz28 := (show Below _ _ _ from b).size
      have Zu := hid m0
      clear b m0
      refine hK.out _ _ (fun _ => ⟨Ps.out.c0, Ps.out.c1, Pa.out.c0, Pa.out.c1, Pg.out.c0, Pg.out.c1⟩) ?_
      clear hK
      refine wpAnyT_take (i := 5) (oi := { dst := some 34, op := Op.move (Operand.tmp 39), type := 47, pos := "modulo.go:56", after := #[{ on := 4, ground := Ground.data }], guard := none }) (v := (.tuple #[(.agg #[.bool nu, .slice adu xu.length qu]), (.int .i64 0)])) rfl (by kernel_rfl) (fun _ _ _ h => h) (Or.inl ⟨by rfl, ?_⟩) ⟨Ps.out.c0, Ps.out.c1, Pa.out.c0, Pa.out.c1, Pg.out.c0, Pg.out.c1⟩ ?_
      · intro w hSw
        (try dsimp only at hSw)
        go_simp
      simp only [Act.put, List.setIfInBounds_toArray, List.set_cons_zero, List.set_cons_succ]
      refine wpAnyT_take (i := 6) (oi := { dst := some 40, op := Op.extract (Operand.tmp 34) 0, type := 25, pos := "modulo.go:56", after := #[{ on := 5, ground := Ground.data }], guard := none }) (v := (.agg #[.bool nu, .slice adu xu.length qu])) rfl (by kernel_rfl) (fun _ _ _ h => h) (Or.inl ⟨by rfl, ?_⟩) ⟨Ps.out.c0, Ps.out.c1, Pa.out.c0, Pa.out.c1, Pg.out.c0, Pg.out.c1⟩ ?_
      · intro w hSw
        (try dsimp only at hSw)
        go_simp
      simp only [Act.put, List.setIfInBounds_toArray, List.set_cons_zero, List.set_cons_succ]
      refine wpAnyT_take (i := 7) (oi := { dst := some 41, op := Op.extract (Operand.tmp 34) 1, type := 38, pos := "modulo.go:56", after := #[{ on := 5, ground := Ground.data }, { on := 9, ground := Ground.gcOnly Departure.lateStores }], guard := none }) (v := (.int .i64 0)) rfl (by kernel_rfl) (fun _ _ _ h => h) (Or.inl ⟨by rfl, ?_⟩) ⟨Ps.out.c0, Ps.out.c1, Pa.out.c0, Pa.out.c1, Pg.out.c0, Pg.out.c1⟩ ?_
      · intro w hSw
        (try dsimp only at hSw)
        go_simp
      simp only [Act.put, List.setIfInBounds_toArray, List.set_cons_zero, List.set_cons_succ]
      refine wpAnyT_one (i := 9) (o := { dst := none, op := Op.store 25 (Operand.tmp 13) (Operand.tmp 40), type := 0, pos := "modulo.go:56", after := #[{ on := 8, ground := Ground.data }, { on := 6, ground := Ground.data }, { on := 4, ground := Ground.chain }, { on := 0, ground := Ground.phase }, { on := 1, ground := Ground.phase }, { on := 2, ground := Ground.phase }, { on := 3, ground := Ground.phase }, { on := 4, ground := Ground.phase }, { on := 5, ground := Ground.phase }, { on := 6, ground := Ground.phase }, { on := 7, ground := Ground.textOnly Departure.lateStores }, { on := 8, ground := Ground.phase }], guard := none }) (by kernel_rfl) rfl (fun K hK => ?_)
      have cN130 := PN13.out.c0
      have cN131 := PN13.out.c1
      have fN130 := PN13.out.fz 0
      have fN131 := PN13.out.fz 1
      go_simp
      clear cN130 cN131 fN130 fN131
      obtain ⟨V29, hW⟩ : ∃ V29, (w27.setCell ⟨D9.heap.size, 0, none⟩ (.bool nu)).setCell ⟨D9.heap.size, 1, none⟩ (.slice adu xu.length qu) = V29 := ⟨_, rfl⟩
      replace Za := hid ((Za.out).wk ((PN13.out).wk (.bool nu) (.slice adu xu.length qu)))
      replace Zb := hid ((Zb.out).wk ((PN13.out).wk (.bool nu) (.slice adu xu.length qu)))
      replace Zs := hid ((Zs.out).wk ((PN13.out).wk (.bool nu) (.slice adu xu.length qu)))
      replace Zt := hid ((Zt.out).wk ((PN13.out).wk (.bool nu) (.slice adu xu.length qu)))
      replace Zg := hid ((Zg.out).box (PN13.out) (.bool nu) (.slice adu xu.length qu))
      replace Zx := hid ((Zx.out).box (PN13.out) (.bool nu) (.slice adu xu.length qu))
      replace Zv := hid ((Zv.out).box (PN13.out) (.bool nu) (.slice adu xu.length qu))
      replace Zu := hid ((Zu.out).box (PN13.out) (.bool nu) (.slice adu xu.length qu))
      replace Pa := hid ((Pa.out).box (b' := D9.heap.size) (by omega) (.bool nu) (.slice adu xu.length qu))
      replace Pb := hid ((Pb.out).box (b' := D9.heap.size) (by omega) (.bool nu) (.slice adu xu.length qu))
      replace Ps := hid ((Ps.out).box (b' := D9.heap.size) (by omega) (.bool nu) (.slice adu xu.length qu))
      replace Pt := hid ((Pt.out).box (b' := D9.heap.size) (by omega) (.bool nu) (.slice adu xu.length qu))
      replace PRR := hid ((PRR.out).box (b' := D9.heap.size) (by omega) (.bool nu) (.slice adu xu.length qu))
      replace PRM := hid ((PRM.out).box (b' := D9.heap.size) (by omega) (.bool nu) (.slice adu xu.length qu))
      replace Pg := hid ((Pg.out).box (b' := D9.heap.size) (by omega) (.bool nu) (.slice adu xu.length qu))
      replace Px := hid ((Px.out).box (b' := D9.heap.size) (by omega) (.bool nu) (.slice adu xu.length qu))
      replace PN13 := hid ((PN13.out).set (.bool nu) (.slice adu xu.length qu))
      replace G : Hid (Below w.heap.size w (((w27.setCell ⟨D9.heap.size, 0, none⟩ (.bool nu)).setCell ⟨D9.heap.size, 1, none⟩ (.slice adu xu.length qu)))) := bset (bset (G.out) (by omega)) (by omega)
      replace GR : Hid (Below V7.heap.size V7 (((w27.setCell ⟨D9.heap.size, 0, none⟩ (.bool nu)).setCell ⟨D9.heap.size, 1, none⟩ (.slice adu xu.length qu)))) := bset (bset (GR.out) (by omega)) (by omega)
      have sz29 : V29.heap.size = w27.heap.size := by rw [← hW]; simp
      rw [hW] at Za Zb Zs Zt Zg Zx Zv Zu Pa Pb Ps Pt PRR PRM Pg Px PN13 G GR
      rw [hW]
      clear hW
      refine hK.out _ _ (fun _ => ⟨Ps.out.c0, Ps.out.c1, Pa.out.c0, Pa.out.c1, Pg.out.c0, Pg.out.c1⟩) ?_
      clear hK
      try simp only [Act.put]
      refine wpAnyT_one (i := 10) (o := { dst := some 10, op := Op.assign (Operand.tmp 41), type := 38, pos := "modulo.go:56", after := #[{ on := 7, ground := Ground.data }, { on := 9, ground := Ground.chain }, { on := 0, ground := Ground.phase }, { on := 1, ground := Ground.phase }, { on := 2, ground := Ground.phase }, { on := 3, ground := Ground.phase }, { on := 4, ground := Ground.phase }, { on := 5, ground := Ground.phase }, { on := 6, ground := Ground.phase }, { on := 7, ground := Ground.phase }, { on := 8, ground := Ground.phase }, { on := 9, ground := Ground.phase }], guard := none }) (by kernel_rfl) rfl (fun K hK => ?_)
      go_simp
      refine hK.out _ _ (fun h => absurd h (by decide)) ?_
      clear hK
      try simp only [Act.put]
      refine wpAnyT_done (by kernel_rfl) ?_ _
      go_wp2_with fail
      go_meet
      exact ⟨⟨_, _, _, _, _, rfl, GR.out, by omega, PN13.out.blk, PN13.out, Zu.out.mono (by omega)⟩, rfl⟩
  case rest =>
  obtain ⟨⟨bku, nu, xu, adu, qu, rfl, b, geu, ltu, p, m⟩, rfl⟩ := hcut
  replace Za := hid (Za.out.now b)
  replace Zb := hid (Zb.out.now b)
  replace Zs := hid (Zs.out.now b)
  replace Zt := hid (Zt.out.now b)
  replace Zg := hid (Zg.out.now b)
  replace Zx := hid (Zx.out.now b)
  replace Pa := hid (Pa.out.step b)
  replace Pb := hid (Pb.out.step b)
  replace Ps := hid (Ps.out.step b)
  replace Pt := hid (Pt.out.step b)
  replace PRR := hid (PRR.out.step b)
  replace PRM := hid (PRM.out.step b)
  replace Pg := hid (Pg.out.step b)
  replace Px := hid (Px.out.step b)
  replace G := hid (below_step G.out b)
  have lz31 := (show Below _ _ _ from b).size
  have Zu := hid m
  have Pu := hid p
  clear b p m
  generalize wc = C31 at *
  have ct0 := Pt.out.c0
  have ct1 := Pt.out.c1
  have cg0 := Pg.out.c0
  have cg1 := Pg.out.c1
  go_wp2_with fail
  clear ct0 ct1 cg0 cg1
  refine (exact_yes Zt.out Zg.out.zi CS.out.g0 (by omega) (by omega) CS.out.ro).mono ?_
  rintro e w32 ⟨r0, rfl, m0, b⟩
  obtain ⟨no, xo, ado, qo, rfl, -, -, -, -, -⟩ := id m0
  replace Za := hid (Za.out.now b)
  replace Zb := hid (Zb.out.now b)
  replace Zs := hid (Zs.out.now b)
  replace Zt := hid (Zt.out.now b)
  replace Zg := hid (Zg.out.now b)
  replace Zx := hid (Zx.out.now b)
  replace Zu := hid (Zu.out.now b)
  replace Pa := hid (Pa.out.step b)
  replace Pb := hid (Pb.out.step b)
  replace Ps := hid (Ps.out.step b)
  replace Pt := hid (Pt.out.step b)
  replace PRR := hid (PRR.out.step b)
  replace PRM := hid (PRM.out.step b)
  replace Pg := hid (Pg.out.step b)
  replace Px := hid (Px.out.step b)
  replace Pu := hid (Pu.out.step b)
  replace G := hid (below_step G.out b)
  have lz33 := (show Below _ _ _ from b).size
  have Zo := hid m0
  clear b m0
  obtain ⟨V34, hW⟩ : ∃ V34, w32.alloc (duo (.bool no) (.slice ado xo.length qo)) = V34 := ⟨_, rfl⟩
  obtain ⟨kW, sz34⟩ := alloc1 w32 (duo (.bool no) (.slice ado xo.length qo))
  rw [hW] at kW sz34
  replace Za := hid (Za.out.now kW)
  replace Zb := hid (Zb.out.now kW)
  replace Zs := hid (Zs.out.now kW)
  replace Zt := hid (Zt.out.now kW)
  replace Zg := hid (Zg.out.now kW)
  replace Zx := hid (Zx.out.now kW)
  replace Zu := hid (Zu.out.now kW)
  replace Zo := hid (Zo.out.now kW)
  replace Pa := hid (Pa.out.step kW)
  replace Pb := hid (Pb.out.step kW)
  replace Ps := hid (Ps.out.step kW)
  replace Pt := hid (Pt.out.step kW)
  replace PRR := hid (PRR.out.step kW)
  replace PRM := hid (PRM.out.step kW)
  replace Pg := hid (Pg.out.step kW)
  replace Px := hid (Px.out.step kW)
  replace Pu := hid (Pu.out.step kW)
  replace G := hid (below_step G.out kW)
  have lz35 := (show Below _ _ _ from kW).size
  have Po : Hid (Duo V34 (w32.heap.size) (.bool no) (.slice ado xo.length qo)) := by unfold Hid; rw [← hW]; exact duo_at (by simp)
  clear kW
  have RN := hid CS.out.rn
  have EW := hid hW
  clear hW
  go_wp2_with fail
  rw [EW.out]
  clear EW
  go_cut [16, 17] from 18 (fun s1 s2 wx => MetB V34 wx s1 (((S - A).tdiv zg * zx) % T.tdiv zg) (max (max k k + 1 + k) k + 1) ∧ s2 = .int .i64 0)
  case first =>
    have GR : Hid (Below V34.heap.size V34 V34) := Below.refl _ _
    refine wp_region_tail (fun w' => w'.cell? ⟨bku, 0, none⟩ = some (.bool nu) ∧ w'.cell? ⟨bku, 1, none⟩ = some (.slice adu xu.length qu) ∧ w'.cell? ⟨w5.heap.size + 1, 0, none⟩ = some (.bool nx) ∧ w'.cell? ⟨w5.heap.size + 1, 1, none⟩ = some (.slice adx xx.length qx) ∧ w'.cell? ⟨w32.heap.size, 0, none⟩ = some (.bool no) ∧ w'.cell? ⟨w32.heap.size, 1, none⟩ = some (.slice ado xo.length qo)) 10 (by kernel_rfl) ?_
    obtain ⟨D36, hD⟩ : ∃ D36, V34.drew = D36 := ⟨_, rfl⟩
    have b : Below V34.heap.size V34 D36 := by rw [← hD]; exact (Below.refl _ _).drew
    rw [hD]
    clear hD
    replace Za := hid (Za.out.now b)
    replace Zb := hid (Zb.out.now b)
    replace Zs := hid (Zs.out.now b)
    replace Zt := hid (Zt.out.now b)
    replace Zg := hid (Zg.out.now b)
    replace Zx := hid (Zx.out.now b)
    replace Zu := hid (Zu.out.now b)
    replace Zo := hid (Zo.out.now b)
    replace Pa := hid (Pa.out.step b)
    replace Pb := hid (Pb.out.step b)
    replace Ps := hid (Ps.out.step b)
    replace Pt := hid (Pt.out.step b)
    replace PRR := hid (PRR.out.step b)
    replace PRM := hid (PRM.out.step b)
    replace Pg := hid (Pg.out.step b)
    replace Px := hid (Px.out.step b)
    replace Pu := hid (Pu.out.step b)
    replace Po := hid (Po.out.step b)
    replace G := hid (below_step G.out b)
    replace GR := hid (below_step GR.out b)
    have lz37 := (show Below _ _ _ from b).size
    clear b
    refine wpAnyT_take (i := 0) (oi := { dst := some 53, op := Op.load 25 (Operand.tmp 13), type := 25, pos := "modulo.go:62", after := #[], guard := none }) (v := (.agg #[(.bool nu), (.slice adu xu.length qu)])) rfl (by kernel_rfl) (fun _ _ _ h => h) (Or.inl ⟨by rfl, ?_⟩) ⟨Pu.out.c0, Pu.out.c1, Px.out.c0, Px.out.c1, Po.out.c0, Po.out.c1⟩ ?_
    · intro w hSw
      (try dsimp only at hSw)
      go_simp
    simp only [Act.put, List.setIfInBounds_toArray, List.set_cons_zero, List.set_cons_succ]
    refine wpAnyT_take (i := 1) (oi := { dst := some 54, op := Op.load 25 (Operand.tmp 12), type := 25, pos := "modulo.go:62", after := #[], guard := none }) (v := (.agg #[(.bool nx), (.slice adx xx.length qx)])) rfl (by kernel_rfl) (fun _ _ _ h => h) (Or.inl ⟨by rfl, ?_⟩) ⟨Pu.out.c0, Pu.out.c1, Px.out.c0, Px.out.c1, Po.out.c0, Po.out.c1⟩ ?_
    · intro w hSw
      (try dsimp only at hSw)
      go_simp
    simp only [Act.put, List.setIfInBounds_toArray, List.set_cons_zero, List.set_cons_succ]
    refine wpAnyT_take (i := 3) (oi := { dst := some 56, op := Op.load 25 (Operand.tmp 14), type := 25, pos := "modulo.go:62", after := #[], guard := none }) (v := (.agg #[(.bool no), (.slice ado xo.length qo)])) rfl (by kernel_rfl) (fun _ _ _ h => h) (Or.inl ⟨by rfl, ?_⟩) ⟨Pu.out.c0, Pu.out.c1, Px.out.c0, Px.out.c1, Po.out.c0, Po.out.c1⟩ ?_
    · intro w hSw
      (try dsimp only at hSw)
      go_simp
    simp only [Act.put, List.setIfInBounds_toArray, List.set_cons_zero, List.set_cons_succ]
    refine wpAnyT_two (i := 2) (j := 8) (oi := { dst := some 55, op := Op.call { callee := Callee.value (Operand.func 22), args := #[Operand.tmp 53, Operand.tmp 54], argTypes := #[25, 25] }, type := 25, pos := "modulo.go:62", after := #[{ on := 0, ground := Ground.data }, { on := 1, ground := Ground.data }], guard := none }) (oj := { dst := some 16, op := Op.alloc 25, type := 0, pos := "modulo.go:62", after := #[], guard := none }) (by kernel_rfl) rfl rfl (fun K hK => ?_) (fun K hK => ?_)
    · skip
      go_simp
      go_at_call 22
      refine (mul_z Zu.out.zi Zx.out.zi (by omega)).mono ?_
      rintro e w38 ⟨r0, rfl, m0, b⟩
      obtain ⟨np, xp, adp, qp, rfl, -, -, -, -, -⟩ := id m0
      replace Za := hid (Za.out.now b)
      replace Zb := hid (Zb.out.now b)
      replace Zs := hid (Zs.out.now b)
      replace Zt := hid (Zt.out.now b)
      replace Zg := hid (Zg.out.now b)
      replace Zx := hid (Zx.out.now b)
      replace Zu := hid (Zu.out.now b)
      replace Zo := hid (Zo.out.now b)
      replace Pa := hid (Pa.out.step b)
      replace Pb := hid (Pb.out.step b)
      replace Ps := hid (Ps.out.step b)
      replace Pt := hid (Pt.out.step b)
      replace PRR := hid (PRR.out.step b)
      replace PRM := hid (PRM.out.step b)
      replace Pg := hid (Pg.out.step b)
      replace Px := hid (Px.out.step b)
      replace Pu := hid (Pu.out.step b)
      replace Po := hid (Po.out.step b)
      replace G := hid (below_step G.out b)
      replace GR := hid (below_step GR.out b)
      have lz39 := (show Below _ _ _ from b).size
      have Zp := hid m0
      clear b m0
      refine hK.out _ _ (fun _ => ⟨Pu.out.c0, Pu.out.c1, Px.out.c0, Px.out.c1, Po.out.c0, Po.out.c1⟩) ?_
      clear hK
      refine wpAnyT_two (i := 4) (j := 8) (oi := { dst := some 57, op := Op.call { callee := Callee.value (Operand.func 55), args := #[Operand.tmp 55, Operand.tmp 56], argTypes := #[25, 25] }, type := 47, pos := "modulo.go:62", after := #[{ on := 2, ground := Ground.data }, { on := 3, ground := Ground.data }, { on := 2, ground := Ground.chain }], guard := none }) (oj := { dst := some 16, op := Op.alloc 25, type := 0, pos := "modulo.go:62", after := #[], guard := none }) (by kernel_rfl) rfl rfl (fun K hK => ?_) (fun K hK => ?_)
      · skip
        go_simp
        go_at_call 55
        refine (mod_z Zp.out.zi Zo.out.zi RN.out (by omega) (by omega)).mono ?_
        rintro e w40 ⟨r0, rfl, m0, b⟩
        obtain ⟨nv, xv, adv, qv, rfl, -, -, -, -, -⟩ := id m0
        replace Za := hid (Za.out.now b)
        replace Zb := hid (Zb.out.now b)
        replace Zs := hid (Zs.out.now b)
        replace Zt := hid (Zt.out.now b)
        replace Zg := hid (Zg.out.now b)
        replace Zx := hid (Zx.out.now b)
        replace Zu := hid (Zu.out.now b)
        replace Zo := hid (Zo.out.now b)
        replace Zp := hid (Zp.out.now b)
        replace Pa := hid (Pa.out.step b)
        replace Pb := hid (Pb.out.step b)
        replace Ps := hid (Ps.out.step b)
        replace Pt := hid (Pt.out.step b)
        replace PRR := hid (PRR.out.step b)
        replace PRM := hid (PRM.out.step b)
        replace Pg := hid (Pg.out.step b)
        replace Px := hid (Px.out.step b)
        replace Pu := hid (Pu.out.step b)
        replace Po := hid (Po.out.step b)
        replace G := hid (below_step G.out b)
        replace GR := hid (below_step GR.out b)
        have lz41 := (show Below _ _ _ from b).size
        have Zv := hid m0
        clear b m0
        refine hK.out _ _ (fun _ => ⟨Pu.out.c0, Pu.out.c1, Px.out.c0, Px.out.c1, Po.out.c0, Po.out.c1⟩) ?_
        clear hK
        refine wpAnyT_take (i := 5) (oi := { dst := some 52, op := Op.move (Operand.tmp 57), type := 47, pos := "modulo.go:62", after := #[{ on := 4, ground := Ground.data }], guard := none }) (v := (.tuple #[(.agg #[.bool nv, .slice adv xv.length qv]), (.int .i64 0)])) rfl (by kernel_rfl) (fun _ _ _ h => h) (Or.inl ⟨by rfl, ?_⟩) ⟨Pu.out.c0, Pu.out.c1, Px.out.c0, Px.out.c1, Po.out.c0, Po.out.c1⟩ ?_
        · intro w hSw
          (try dsimp only at hSw)
          go_simp
        simp only [Act.put, List.setIfInBounds_toArray, List.set_cons_zero, List.set_cons_succ]
        refine wpAnyT_take (i := 6) (oi := { dst := some 58, op := Op.extract (Operand.tmp 52) 0, type := 25, pos := "modulo.go:62", after := #[{ on := 5, ground := Ground.data }], guard := none }) (v := (.agg #[.bool nv, .slice adv xv.length qv])) rfl (by kernel_rfl) (fun _ _ _ h => h) (Or.inl ⟨by rfl, ?_⟩) ⟨Pu.out.c0, Pu.out.c1, Px.out.c0, Px.out.c1, Po.out.c0, Po.out.c1⟩ ?_
        · intro w hSw
          (try dsimp only at hSw)
          go_simp
        simp only [Act.put, List.setIfInBounds_toArray, List.set_cons_zero, List.set_cons_succ]
        refine wpAnyT_take (i := 7) (oi := { dst := some 59, op := Op.extract (Operand.tmp 52) 1, type := 38, pos := "modulo.go:62", after := #[{ on := 5, ground := Ground.data }, { on := 9, ground := Ground.gcOnly Departure.lateStores }], guard := none }) (v := (.int .i64 0)) rfl (by kernel_rfl) (fun _ _ _ h => h) (Or.inl ⟨by rfl, ?_⟩) ⟨Pu.out.c0, Pu.out.c1, Px.out.c0, Px.out.c1, Po.out.c0, Po.out.c1⟩ ?_
        · intro w hSw
          (try dsimp only at hSw)
          go_simp
        simp only [Act.put, List.setIfInBounds_toArray, List.set_cons_zero, List.set_cons_succ]
        refine wpAnyT_one (i := 8) (o := { dst := some 16, op := Op.alloc 25, type := 0, pos := "modulo.go:62", after := #[], guard := none }) (by kernel_rfl) rfl (fun K hK => ?_)
        go_simp
        obtain ⟨V42, hW⟩ : ∃ V42, w40.alloc zbox = V42 := ⟨_, rfl⟩
        obtain ⟨kW, sz42⟩ := alloc1 w40 zbox
        rw [hW] at kW sz42
        replace Za := hid (Za.out.now kW)
        replace Zb := hid (Zb.out.now kW)
        replace Zs := hid (Zs.out.now kW)
        replace Zt := hid (Zt.out.now kW)
        replace Zg := hid (Zg.out.now kW)
        replace Zx := hid (Zx.out.now kW)
        replace Zu := hid (Zu.out.now kW)
        replace Zo := hid (Zo.out.now kW)
        replace Zp := hid (Zp.out.now kW)
        replace Zv := hid (Zv.out.now kW)
        replace Pa := hid (Pa.out.step kW)
        replace Pb := hid (Pb.out.step kW)
        replace Ps := hid (Ps.out.step kW)
        replace Pt := hid (Pt.out.step kW)
        replace PRR := hid (PRR.out.step kW)
        replace PRM := hid (PRM.out.step kW)
        replace Pg := hid (Pg.out.step kW)
        replace Px := hid (Px.out.step kW)
        replace Pu := hid (Pu.out.step kW)
        replace Po := hid (Po.out.step kW)
        replace G := hid (below_step G.out kW)
        replace GR := hid (below_step GR.out kW)
        have lz43 := (show Below _ _ _ from kW).size
        have PN16 : Hid (Duo V42 (w40.heap.size) (.bool false) (.slice none 0 0)) := by unfold Hid; rw [← hW]; exact duo_at rfl
        rw [hW]
        clear hW kW
        refine hK.out _ _ (fun _ => ⟨Pu.out.c0, Pu.out.c1, Px.out.c0, Px.out.c1, Po.out.c0, Po.out.c1⟩) ?_
        clear hK
        try simp only [Act.put]
        refine wpAnyT_one (i := 9) (o := { dst := none, op := Op.store 25 (Operand.tmp 16) (Operand.tmp 58), type := 0, pos := "modulo.go:62", after := #[{ on := 8, ground := Ground.data }, { on := 6, ground := Ground.data }, { on := 4, ground := Ground.chain }, { on := 0, ground := Ground.phase }, { on := 1, ground := Ground.phase }, { on := 2, ground := Ground.phase }, { on := 3, ground := Ground.phase }, { on := 4, ground := Ground.phase }, { on := 5, ground := Ground.phase }, { on := 6, ground := Ground.phase }, { on := 7, ground := Ground.textOnly Departure.lateStores }, { on := 8, ground := Ground.phase }], guard := none }) (by kernel_rfl) rfl (fun K hK => ?_)
        have cN160 := PN16.out.c0
        have cN161 := PN16.out.c1
        have fN160 := PN16.out.fz 0
        have fN161 := PN16.out.fz 1
        go_simp
        clear cN160 cN161 fN160 fN161
        obtain ⟨V44, hW⟩ : ∃ V44, (V42.setCell ⟨w40.heap.size, 0, none⟩ (.bool nv)).setCell ⟨w40.heap.size, 1, none⟩ (.slice adv xv.length qv) = V44 := ⟨_, rfl⟩
        replace Za := hid ((Za.out).wk ((PN16.out).wk (.bool nv) (.slice adv xv.length qv)))
        replace Zb := hid ((Zb.out).wk ((PN16.out).wk (.bool nv) (.slice adv xv.length qv)))
        replace Zs := hid ((Zs.out).wk ((PN16.out).wk (.bool nv) (.slice adv xv.length qv)))
        replace Zt := hid ((Zt.out).wk ((PN16.out).wk (.bool nv) (.slice adv xv.length qv)))
        replace Zg := hid ((Zg.out).box (PN16.out) (.bool nv) (.slice adv xv.length qv))
        replace Zx := hid ((Zx.out).box (PN16.out) (.bool nv) (.slice adv xv.length qv))
        replace Zu := hid ((Zu.out).box (PN16.out) (.bool nv) (.slice adv xv.length qv))
        replace Zo := hid ((Zo.out).box (PN16.out) (.bool nv) (.slice adv xv.length qv))
        replace Zp := hid ((Zp.out).box (PN16.out) (.bool nv) (.slice adv xv.length qv))
        replace Zv := hid ((Zv.out).box (PN16.out) (.bool nv) (.slice adv xv.length qv))
        replace Pa := hid ((Pa.out).box (b' := w40.heap.size) (by omega) (.bool nv) (.slice adv xv.length qv))
        replace Pb := hid ((Pb.out).box (b' := w40.heap.size) (by omega) (.bool nv) (.slice adv xv.length qv))
        replace Ps := hid ((Ps.out).box (b' := w40.heap.size) (by omega) (.bool nv) (.slice adv xv.length qv))
        replace Pt := hid ((Pt.out).box (b' := w40.heap.size) (by omega) (.bool nv) (.slice adv xv.length qv))
        replace PRR := hid ((PRR.out).box (b' := w40.heap.size) (by omega) (.bool nv) (.slice adv xv.length qv))
        replace PRM := hid ((PRM.out).box (b' := w40.heap.size) (by omega) (.bool nv) (.slice adv xv.length qv))
        replace Pg := hid ((Pg.out).box (b' := w40.heap.size) (by omega) (.bool nv) (.slice adv xv.length qv))
        replace Px := hid ((Px.out).box (b' := w40.heap.size) (by omega) (.bool nv) (.slice adv xv.length qv))
        replace Pu := hid ((Pu.out).box (b' := w40.heap.size) (by omega) (.bool nv) (.slice adv xv.length qv))
        replace Po := hid ((Po.out).box (b' := w40.heap.size) (by omega) (.bool nv) (.slice adv xv.length qv))
        replace PN16 := hid ((PN16.out).set (.bool nv) (.slice adv xv.length qv))
        replace G : Hid (Below w.heap.size w (((V42.setCell ⟨w40.heap.size, 0, none⟩ (.bool nv)).setCell ⟨w40.heap.size, 1, none⟩ (.slice adv xv.length qv)))) := bset (bset (G.out) (by omega)) (by omega)
        replace GR : Hid (Below V34.heap.size V34 (((V42.setCell ⟨w40.heap.size, 0, none⟩ (.bool nv)).setCell ⟨w40.heap.size, 1, none⟩ (.slice adv xv.length qv)))) := bset (bset (GR.out) (by omega)) (by omega)
        have sz44 : V44.heap.size = V42.heap.size := by rw [← hW]; simp
        rw [hW] at Za Zb Zs Zt Zg Zx Zu Zo Zp Zv Pa Pb Ps Pt PRR PRM Pg Px Pu Po PN16 G GR
        rw [hW]
        clear hW
        refine hK.out _ _ (fun _ => ⟨Pu.out.c0, Pu.out.c1, Px.out.c0, Px.out.c1, Po.out.c0, Po.out.c1⟩) ?_
        clear hK
        try simp only [Act.put]
        refine wpAnyT_one (i := 10) (o := { dst := some 17, op := Op.assign (Operand.tmp 59), type := 38, pos := "modulo.go:62", after := #[{ on := 7, ground := Ground.data }, { on := 9, ground := Ground.chain }, { on := 0, ground := Ground.phase }, { on := 1, ground := Ground.phase }, { on := 2, ground := Ground.phase }, { on := 3, ground := Ground.phase }, { on := 4, ground := Ground.phase }, { on := 5, ground := Ground.phase }, { on := 6, ground := Ground.phase }, { on := 7, ground := Ground.phase }, { on := 8, ground := Ground.phase }, { on := 9, ground := Ground.phase }], guard := none }) (by kernel_rfl) rfl (fun K hK => ?_)
        go_simp
        refine hK.out _ _ (fun h => absurd h (by decide)) ?_
        clear hK
        try simp only [Act.put]
        refine wpAnyT_done (by kernel_rfl) ?_ _
        go_wp2_with fail
        go_meet
        exact ⟨⟨_, _, _, _, _, rfl, GR.out, by omega, PN16.out.blk, PN16.out, Zv.out.mono (by omega)⟩, rfl⟩
      · skip
        go_simp
        obtain ⟨V45, hW⟩ : ∃ V45, w38.alloc zbox = V45 := ⟨_, rfl⟩
        obtain ⟨kW, sz45⟩ := alloc1 w38 zbox
        rw [hW] at kW sz45
        replace Za := hid (Za.out.now kW)
        replace Zb := hid (Zb.out.now kW)
        replace Zs := hid (Zs.out.now kW)
        replace Zt := hid (Zt.out.now kW)
        replace Zg := hid (Zg.out.now kW)
        replace Zx := hid (Zx.out.now kW)
        replace Zu := hid (Zu.out.now kW)
        replace Zo := hid (Zo.out.now kW)
        replace Zp := hid (Zp.out.now kW)
        replace Pa := hid (Pa.out.step kW)
        replace Pb := hid (Pb.out.step kW)
        replace Ps := hid (Ps.out.step kW)
        replace Pt := hid (Pt.out.step kW)
        replace PRR := hid (PRR.out.step kW)
        replace PRM := hid (PRM.out.step kW)
        replace Pg := hid (Pg.out.step kW)
        replace Px := hid (Px.out.step kW)
        replace Pu := hid (Pu.out.step kW)
        replace Po := hid (Po.out.step kW)
        replace G := hid (below_step G.out kW)
        replace GR := hid (below_step GR.out kW)
        have lz46 := (show Below _ _ _ from kW).size
        have PN16 : Hid (Duo V45 (w38.heap.size) (.bool false) (.slice none 0 0)) := by unfold Hid; rw [← hW]; exact duo_at rfl
        rw [hW]
        clear hW kW
        refine hK.out _ _ (fun _ => ⟨Pu.out.c0, Pu.out.c1, Px.out.c0, Px.out.c1, Po.out.c0, Po.out.c1⟩) ?_
        clear hK
        try simp only [Act.put]
        refine wpAnyT_one (i := 4) (o := { dst := some 57, op := Op.call { callee := Callee.value (Operand.func 55), args := #[Operand.tmp 55, Operand.tmp 56], argTypes := #[25, 25] }, type := 47, pos := "modulo.go:62", after := #[{ on := 2, ground := Ground.data }, { on := 3, ground := Ground.data }, { on := 2, ground := Ground.chain }], guard := none }) (by kernel_rfl) rfl (fun K hK => ?_)
        go_simp
        go_at_call 55
        refine (mod_z Zp.out.zi Zo.out.zi RN.out (by omega) (by omega)).mono ?_
        rintro e w47 ⟨r0, rfl, m0, b⟩
        obtain ⟨nv, xv, adv, qv, rfl, -, -, -, -, -⟩ := id m0
        replace Za := hid (Za.out.now b)
        replace Zb := hid (Zb.out.now b)
        replace Zs := hid (Zs.out.now b)
        replace Zt := hid (Zt.out.now b)
        replace Zg := hid (Zg.out.now b)
        replace Zx := hid (Zx.out.now b)
        replace Zu := hid (Zu.out.now b)
        replace Zo := hid (Zo.out.now b)
        replace Zp := hid (Zp.out.now b)
        replace Pa := hid (Pa.out.step b)
        replace Pb := hid (Pb.out.step b)
        replace Ps := hid (Ps.out.step b)
        replace Pt := hid (Pt.out.step b)
        replace PRR := hid (PRR.out.step b)
        replace PRM := hid (PRM.out.step b)
        replace Pg := hid (Pg.out.step b)
        replace Px := hid (Px.out.step b)
        replace Pu := hid (Pu.out.step b)
        replace Po := hid (Po.out.step b)
        replace PN16 := hid (PN16.out.step b)
        replace G := hid (below_step G.out b)
        replace GR := hid (below_step GR.out b)
        have lz48 := (show Below _ _ _ from b).size
        have Zv := hid m0
        clear b m0
        refine hK.out _ _ (fun _ => ⟨Pu.out.c0, Pu.out.c1, Px.out.c0, Px.out.c1, Po.out.c0, Po.out.c1⟩) ?_
        clear hK
        refine wpAnyT_take (i := 5) (oi := { dst := some 52, op := Op.move (Operand.tmp 57), type := 47, pos := "modulo.go:62", after := #[{ on := 4, ground := Ground.data }], guard := none }) (v := (.tuple #[(.agg #[.bool nv, .slice adv xv.length qv]), (.int .i64 0)])) rfl (by kernel_rfl) (fun _ _ _ h => h) (Or.inl ⟨by rfl, ?_⟩) ⟨Pu.out.c0, Pu.out.c1, Px.out.c0, Px.out.c1, Po.out.c0, Po.out.c1⟩ ?_
        · intro w hSw
          (try dsimp only at hSw)
          go_simp
        simp only [Act.put, List.setIfInBounds_toArray, List.set_cons_zero, List.set_cons_succ]
        refine wpAnyT_take (i := 6) (oi := { dst := some 58, op := Op.extract (Operand.tmp 52) 0, type := 25, pos := "modulo.go:62", after := #[{ on := 5, ground := Ground.data }], guard := none }) (v := (.agg #[.bool nv, .slice adv xv.length qv])) rfl (by kernel_rfl) (fun _ _ _ h => h) (Or.inl ⟨by rfl, ?_⟩) ⟨Pu.out.c0, Pu.out.c1, Px.out.c0, Px.out.c1, Po.out.c0, Po.out.c1⟩ ?_
        · intro w hSw
          (try dsimp only at hSw)
          go_simp
        simp only [Act.put, List.setIfInBounds_toArray, List.set_cons_zero, List.set_cons_succ]
        refine wpAnyT_take (i := 7) (oi := { dst := some 59, op := Op.extract (Operand.tmp 52) 1, type := 38, pos := "modulo.go:62", after := #[{ on := 5, ground := Ground.data }, { on := 9, ground := Ground.gcOnly Departure.lateStores }], guard := none }) (v := (.int .i64 0)) rfl (by kernel_rfl) (fun _ _ _ h => h) (Or.inl ⟨by rfl, ?_⟩) ⟨Pu.out.c0, Pu.out.c1, Px.out.c0, Px.out.c1, Po.out.c0, Po.out.c1⟩ ?_
        · intro w hSw
          (try dsimp only at hSw)
          go_simp
        simp only [Act.put, List.setIfInBounds_toArray, List.set_cons_zero, List.set_cons_succ]
        refine wpAnyT_one (i := 9) (o := { dst := none, op := Op.store 25 (Operand.tmp 16) (Operand.tmp 58), type := 0, pos := "modulo.go:62", after := #[{ on := 8, ground := Ground.data }, { on := 6, ground := Ground.data }, { on := 4, ground := Ground.chain }, { on := 0, ground := Ground.phase }, { on := 1, ground := Ground.phase }, { on := 2, ground := Ground.phase }, { on := 3, ground := Ground.phase }, { on := 4, ground := Ground.phase }, { on := 5, ground := Ground.phase }, { on := 6, ground := Ground.phase }, { on := 7, ground := Ground.textOnly Departure.lateStores }, { on := 8, ground := Ground.phase }], guard := none }) (by kernel_rfl) rfl (fun K hK => ?_)
        have cN160 := PN16.out.c0
        have cN161 := PN16.out.c1
        have fN160 := PN16.out.fz 0
        have fN161 := PN16.out.fz 1
        go_simp
        clear cN160 cN161 fN160 fN161
        obtain ⟨V49, hW⟩ : ∃ V49, (w47.setCell ⟨w38.heap.size, 0, none⟩ (.bool nv)).setCell ⟨w38.heap.size, 1, none⟩ (.slice adv xv.length qv) = V49 := ⟨_, rfl⟩
        replace Za := hid ((Za.out).wk ((PN16.out).wk (.bool nv) (.slice adv xv.length qv)))
        replace Zb := hid ((Zb.out).wk ((PN16.out).wk (.bool nv) (.slice adv xv.length qv)))
        replace Zs := hid ((Zs.out).wk ((PN16.out).wk (.bool nv) (.slice adv xv.length qv)))
        replace Zt := hid ((Zt.out).wk ((PN16.out).wk (.bool nv) (.slice adv xv.length qv)))
        replace Zg := hid ((Zg.out).box (PN16.out) (.bool nv) (.slice adv xv.length qv))
        replace Zx := hid ((Zx.out).box (PN16.out) (.bool nv) (.slice adv xv.length qv))
        replace Zu := hid ((Zu.out).box (PN16.out) (.bool nv) (.slice adv xv.length qv))
        replace Zo := hid ((Zo.out).box (PN16.out) (.bool nv) (.slice adv xv.length qv))
        replace Zp := hid ((Zp.out).box (PN16.out) (.bool nv) (.slice adv xv.length qv))
        replace Zv := hid ((Zv.out).box (PN16.out) (.bool nv) (.slice adv xv.length qv))
        replace Pa := hid ((Pa.out).box (b' := w38.heap.size) (by omega) (.bool nv) (.slice adv xv.length qv))
        replace Pb := hid ((Pb.out).box (b' := w38.heap.size) (by omega) (.bool nv) (.slice adv xv.length qv))
        replace Ps := hid ((Ps.out).box (b' := w38.heap.size) (by omega) (.bool nv) (.slice adv xv.length qv))
        replace Pt := hid ((Pt.out).box (b' := w38.heap.size) (by omega) (.bool nv) (.slice adv xv.length qv))
        replace PRR := hid ((PRR.out).box (b' := w38.heap.size) (by omega) (.bool nv) (.slice adv xv.length qv))
        replace PRM := hid ((PRM.out).box (b' := w38.heap.size) (by omega) (.bool nv) (.slice adv xv.length qv))
        replace Pg := hid ((Pg.out).box (b' := w38.heap.size) (by omega) (.bool nv) (.slice adv xv.length qv))
        replace Px := hid ((Px.out).box (b' := w38.heap.size) (by omega) (.bool nv) (.slice adv xv.length qv))
        replace Pu := hid ((Pu.out).box (b' := w38.heap.size) (by omega) (.bool nv) (.slice adv xv.length qv))
        replace Po := hid ((Po.out).box (b' := w38.heap.size) (by omega) (.bool nv) (.slice adv xv.length qv))
        replace PN16 := hid ((PN16.out).set (.bool nv) (.slice adv xv.length qv))
        replace G : Hid (Below w.heap.size w (((w47.setCell ⟨w38.heap.size, 0, none⟩ (.bool nv)).setCell ⟨w38.heap.size, 1, none⟩ (.slice adv xv.length qv)))) := bset (bset (G.out) (by omega)) (by omega)
        replace GR : Hid (Below V34.heap.size V34 (((w47.setCell ⟨w38.heap.size, 0, none⟩ (.bool nv)).setCell ⟨w38.heap.size, 1, none⟩ (.slice adv xv.length qv)))) := bset (bset (GR.out) (by omega)) (by omega)
        have sz49 : V49.heap.size = w47.heap.size := by rw [← hW]; simp
        rw [hW] at Za Zb Zs Zt Zg Zx Zu Zo Zp Zv Pa Pb Ps Pt PRR PRM Pg Px Pu Po PN16 G GR
        rw [hW]
        clear hW
        refine hK.out _ _ (fun _ => ⟨Pu.out.c0, Pu.out.c1, Px.out.c0, Px.out.c1, Po.out.c0, Po.out.c1⟩) ?_
        clear hK
        try simp only [Act.put]
        refine wpAnyT_one (i := 10) (o := { dst := some 17, op := Op.assign (Operand.tmp 59), type := 38, pos := "modulo.go:62", after := #[{ on := 7, ground := Ground.data }, { on := 9, ground := Ground.chain }, { on := 0, ground := Ground.phase }, { on := 1, ground := Ground.phase }, { on := 2, ground := Ground.phase }, { on := 3, ground := Ground.phase }, { on := 4, ground := Ground.phase }, { on := 5, ground := Ground.phase }, { on := 6, ground := Ground.phase }, { on := 7, ground := Ground.phase }, { on := 8, ground := Ground.phase }, { on := 9, ground := Ground.phase }], guard := none }) (by kernel_rfl) rfl (fun K hK => ?_)
        go_simp
        refine hK.out _ _ (fun h => absurd h (by decide)) ?_
        clear hK
        try simp only [Act.put]
        refine wpAnyT_done (by kernel_rfl) ?_ _
        go_wp2_with fail
        go_meet
        exact ⟨⟨_, _, _, _, _, rfl, GR.out, by omega, PN16.out.blk, PN16.out, Zv.out.mono (by omega)⟩, rfl⟩
    · skip
      go_simp
      obtain ⟨V50, hW⟩ : ∃ V50, D36.alloc zbox = V50 := ⟨_, rfl⟩
      obtain ⟨kW, sz50⟩ := alloc1 D36 zbox
      rw [hW] at kW sz50
      replace Za := hid (Za.out.now kW)
      replace Zb := hid (Zb.out.now kW)
      replace Zs := hid (Zs.out.now kW)
      replace Zt := hid (Zt.out.now kW)
      replace Zg := hid (Zg.out.now kW)
      replace Zx := hid (Zx.out.now kW)
      replace Zu := hid (Zu.out.now kW)
      replace Zo := hid (Zo.out.now kW)
      replace Pa := hid (Pa.out.step kW)
      replace Pb := hid (Pb.out.step kW)
      replace Ps := hid (Ps.out.step kW)
      replace Pt := hid (Pt.out.step kW)
      replace PRR := hid (PRR.out.step kW)
      replace PRM := hid (PRM.out.step kW)
      replace Pg := hid (Pg.out.step kW)
      replace Px := hid (Px.out.step kW)
      replace Pu := hid (Pu.out.step kW)
      replace Po := hid (Po.out.step kW)
      replace G := hid (below_step G.out kW)
      replace GR := hid (below_step GR.out kW)
      have lz51 := (show Below _ _ _ from kW).size
      have PN16 : Hid (Duo V50 (D36.heap.size) (.bool false) (.slice none 0 0)) := by unfold Hid; rw [← hW]; exact duo_at rfl
      rw [hW]
      clear hW kW
      refine hK.out _ _ (fun _ => ⟨Pu.out.c0, Pu.out.c1, Px.out.c0, Px.out.c1, Po.out.c0, Po.out.c1⟩) ?_
      clear hK
      try simp only [Act.put]
      refine wpAnyT_one (i := 2) (o := { dst := some 55, op := Op.call { callee := Callee.value (Operand.func 22), args := #[Operand.tmp 53, Operand.tmp 54], argTypes := #[25, 25] }, type := 25, pos := "modulo.go:62", after := #[{ on := 0, ground := Ground.data }, { on := 1, ground := Ground.data }], guard := none }) (by kernel_rfl) rfl (fun K hK => ?_)
      go_simp
      go_at_call 22
      refine (mul_z Zu.out.zi Zx.out.zi (by omega)).mono ?_
      rintro e w52 ⟨r0, rfl, m0, b⟩
      obtain ⟨np, xp, adp, qp, rfl, -, -, -, -, -⟩ := id m0
      replace Za := hid (Za.out.now b)
      replace Zb := hid (Zb.out.now b)
      replace Zs := hid (Zs.out.now b)
      replace Zt := hid (Zt.out.now b)
      replace Zg := hid (Zg.out.now b)
      replace Zx := hid (Zx.out.now b)
      replace Zu := hid (Zu.out.now b)
      replace Zo := hid (Zo.out.now b)
      replace Pa := hid (Pa.out.step b)
      replace Pb := hid (Pb.out.step b)
      replace Ps := hid (Ps.out.step b)
      replace Pt := hid (Pt.out.step b)
      replace PRR := hid (PRR.out.step b)
      replace PRM := hid (PRM.out.step b)
      replace Pg := hid (Pg.out.step b)
      replace Px := hid (Px.out.step b)
      replace Pu := hid (Pu.out.step b)
      replace Po := hid (Po.out.step b)
      replace PN16 := hid (PN16.out.step b)
      replace G := hid (below_step G.out b)
      replace GR := hid (below_step GR.out b)
      have lz53 := (show Below _ _ _ from b).size
      have Zp := hid m0
      clear b m0
      refine hK.out _ _ (fun _ => ⟨Pu.out.c0, Pu.out.c1, Px.out.c0, Px.out.c1, Po.out.c0, Po.out.c1⟩) ?_
      clear hK
      refine wpAnyT_one (i := 4) (o := { dst := some 57, op := Op.call { callee := Callee.value (Operand.func 55), args := #[Operand.tmp 55, Operand.tmp 56], argTypes := #[25, 25] }, type := 47, pos := "modulo.go:62", after := #[{ on := 2, ground := Ground.data }, { on := 3, ground := Ground.data }, { on := 2, ground := Ground.chain }], guard := none }) (by kernel_rfl) rfl (fun K hK => ?_)
      go_simp
      go_at_call 55
      refine (mod_z Zp.out.zi Zo.out.zi RN.out (by omega) (by omega)).mono ?_
      rintro e w54 ⟨r0, rfl, m0, b⟩
      obtain ⟨nv, xv, adv, qv, rfl, -, -, -, -, -⟩ := id m0
      replace Za := hid (Za.out.now b)
      replace Zb := hid (Zb.out.now b)
      replace Zs := hid (Zs.out.now b)
      replace Zt := hid (Zt.out.now b)
      replace Zg := hid (Zg.out.now b)
      replace Zx := hid (Zx.out.now b)
      replace Zu := hid (Zu.out.now b)
      replace Zo := hid (Zo.out.now b)
      replace Zp := hid (Zp.out.now b)
      replace Pa := hid (Pa.out.step b)
      replace Pb := hid (Pb.out.step b)
      replace Ps := hid (Ps.out.step b)
      replace Pt := hid (Pt.out.step b)
      replace PRR := hid (PRR.out.step b)
      replace PRM := hid (PRM.out.step b)
      replace Pg := hid (Pg.out.step b)
      replace Px := hid (Px.out.step b)
      replace Pu := hid (Pu.out.step b)
      replace Po := hid (Po.out.step b)
      replace PN16 := hid (PN16.out.step b)
      replace G := hid (below_step G.out b)
      replace GR := hid (below_step GR.out b)
      have lz55 := (show Below _ _ _ from b).size
      have Zv := hid m0
      clear b m0
      refine hK.out _ _ (fun _ => ⟨Pu.out.c0, Pu.out.c1, Px.out.c0, Px.out.c1, Po.out.c0, Po.out.c1⟩) ?_
      clear hK
      refine wpAnyT_take (i := 5) (oi := { dst := some 52, op := Op.move (Operand.tmp 57), type := 47, pos := "modulo.go:62", after := #[{ on := 4, ground := Ground.data }], guard := none }) (v := (.tuple #[(.agg #[.bool nv, .slice adv xv.length qv]), (.int .i64 0)])) rfl (by kernel_rfl) (fun _ _ _ h => h) (Or.inl ⟨by rfl, ?_⟩) ⟨Pu.out.c0, Pu.out.c1, Px.out.c0, Px.out.c1, Po.out.c0, Po.out.c1⟩ ?_
      · intro w hSw
        (try dsimp only at hSw)
        go_simp
      simp only [Act.put, List.setIfInBounds_toArray, List.set_cons_zero, List.set_cons_succ]
      refine wpAnyT_take (i := 6) (oi := { dst := some 58, op := Op.extract (Operand.tmp 52) 0, type := 25, pos := "modulo.go:62", after := #[{ on := 5, ground := Ground.data }], guard := none }) (v := (.agg #[.bool nv, .slice adv xv.length qv])) rfl (by kernel_rfl) (fun _ _ _ h => h) (Or.inl ⟨by rfl, ?_⟩) ⟨Pu.out.c0, Pu.out.c1, Px.out.c0, Px.out.c1, Po.out.c0, Po.out.c1⟩ ?_
      · intro w hSw
        (try dsimp only at hSw)
        go_simp
      simp only [Act.put, List.setIfInBounds_toArray, List.set_cons_zero, List.set_cons_succ]
      refine wpAnyT_take (i := 7) (oi := { dst := some 59, op := Op.extract (Operand.tmp 52) 1, type := 38, pos := "modulo.go:62", after := #[{ on := 5, ground := Ground.data }, { on := 9, ground := Ground.gcOnly Departure.lateStores }], guard := none }) (v := (.int .i64 0)) rfl (by kernel_rfl) (fun _ _ _ h => h) (Or.inl ⟨by rfl, ?_⟩) ⟨Pu.out.c0, Pu.out.c1, Px.out.c0, Px.out.c1, Po.out.c0, Po.out.c1⟩ ?_
      · intro w hSw
        (try dsimp only at hSw)
        go_simp
      simp only [Act.put, List.setIfInBounds_toArray, List.set_cons_zero, List.set_cons_succ]
      refine wpAnyT_one (i := 9) (o := { dst := none, op := Op.store 25 (Operand.tmp 16) (Operand.tmp 58), type := 0, pos := "modulo.go:62", after := #[{ on := 8, ground := Ground.data }, { on := 6, ground := Ground.data }, { on := 4, ground := Ground.chain }, { on := 0, ground := Ground.phase }, { on := 1, ground := Ground.phase }, { on := 2, ground := Ground.phase }, { on := 3, ground := Ground.phase }, { on := 4, ground := Ground.phase }, { on := 5, ground := Ground.phase }, { on := 6, ground := Ground.phase }, { on := 7, ground := Ground.textOnly Departure.lateStores }, { on := 8, ground := Ground.phase }], guard := none }) (by kernel_rfl) rfl (fun K hK => ?_)
      have cN160 := PN16.out.c0
      have cN161 := PN16.out.c1
      have fN160 := PN16.out.fz 0
      have fN161 := PN16.out.fz 1
      go_simp
      clear cN160 cN161 fN160 fN161
      obtain ⟨V56, hW⟩ : ∃ V56, (w54.setCell ⟨D36.heap.size, 0, none⟩ (.bool nv)).setCell ⟨D36.heap.size, 1, none⟩ (.slice adv xv.length qv) = V56 := ⟨_, rfl⟩
      replace Za := hid ((Za.out).wk ((PN16.out).wk (.bool nv) (.slice adv xv.length qv)))
      replace Zb := hid ((Zb.out).wk ((PN16.out).wk (.bool nv) (.slice adv xv.length qv)))
      replace Zs := hid ((Zs.out).wk ((PN16.out).wk (.bool nv) (.slice adv xv.length qv)))
      replace Zt := hid ((Zt.out).wk ((PN16.out).wk (.bool nv) (.slice adv xv.length qv)))
      replace Zg := hid ((Zg.out).box (PN16.out) (.bool nv) (.slice adv xv.length qv))
      replace Zx := hid ((Zx.out).box (PN16.out) (.bool nv) (.slice adv xv.length qv))
      replace Zu := hid ((Zu.out).box (PN16.out) (.bool nv) (.slice adv xv.length qv))
      replace Zo := hid ((Zo.out).box (PN16.out) (.bool nv) (.slice adv xv.length qv))
      replace Zp := hid ((Zp.out).box (PN16.out) (.bool nv) (.slice adv xv.length qv))
      replace Zv := hid ((Zv.out).box (PN16.out) (.bool nv) (.slice adv xv.length qv))
      replace Pa := hid ((Pa.out).box (b' := D36.heap.size) (by omega) (.bool nv) (.slice adv xv.length qv))
      replace Pb := hid ((Pb.out).box (b' := D36.heap.size) (by omega) (.bool nv) (.slice adv xv.length qv))
      replace Ps := hid ((Ps.out).box (b' := D36.heap.size) (by omega) (.bool nv) (.slice adv xv.length qv))
      replace Pt := hid ((Pt.out).box (b' := D36.heap.size) (by omega) (.bool nv) (.slice adv xv.length qv))
      replace PRR := hid ((PRR.out).box (b' := D36.heap.size) (by omega) (.bool nv) (.slice adv xv.length qv))
      replace PRM := hid ((PRM.out).box (b' := D36.heap.size) (by omega) (.bool nv) (.slice adv xv.length qv))
      replace Pg := hid ((Pg.out).box (b' := D36.heap.size) (by omega) (.bool nv) (.slice adv xv.length qv))
      replace Px := hid ((Px.out).box (b' := D36.heap.size) (by omega) (.bool nv) (.slice adv xv.length qv))
      replace Pu := hid ((Pu.out).box (b' := D36.heap.size) (by omega) (.bool nv) (.slice adv xv.length qv))
      replace Po := hid ((Po.out).box (b' := D36.heap.size) (by omega) (.bool nv) (.slice adv xv.length qv))
      replace PN16 := hid ((PN16.out).set (.bool nv) (.slice adv xv.length qv))
      replace G : Hid (Below w.heap.size w (((w54.setCell ⟨D36.heap.size, 0, none⟩ (.bool nv)).setCell ⟨D36.heap.size, 1, none⟩ (.slice adv xv.length qv)))) := bset (bset (G.out) (by omega)) (by omega)
      replace GR : Hid (Below V34.heap.size V34 (((w54.setCell ⟨D36.heap.size, 0, none⟩ (.bool nv)).setCell ⟨D36.heap.size, 1, none⟩ (.slice adv xv.length qv)))) := bset (bset (GR.out) (by omega)) (by omega)
      have sz56 : V56.heap.size = w54.heap.size := by rw [← hW]; simp
      rw [hW] at Za Zb Zs Zt Zg Zx Zu Zo Zp Zv Pa Pb Ps Pt PRR PRM Pg Px Pu Po PN16 G GR
      rw [hW]
      clear hW
      refine hK.out _ _ (fun _ => ⟨Pu.out.c0, Pu.out.c1, Px.out.c0, Px.out.c1, Po.out.c0, Po.out.c1⟩) ?_
      clear hK
      try simp only [Act.put]
      refine wpAnyT_one (i := 10) (o := { dst := some 17, op := Op.assign (Operand.tmp 59), type := 38, pos := "modulo.go:62", after := #[{ on := 7, ground := Ground.data }, { on := 9, ground := Ground.chain }, { on := 0, ground := Ground.phase }, { on := 1, ground := Ground.phase }, { on := 2, ground := Ground.phase }, { on := 3, ground := Ground.phase }, { on := 4, ground := Ground.phase }, { on := 5, ground := Ground.phase }, { on := 6, ground := Ground.phase }, { on := 7, ground := Ground.phase }, { on := 8, ground := Ground.phase }, { on := 9, ground := Ground.phase }], guard := none }) (by kernel_rfl) rfl (fun K hK => ?_)
      go_simp
      refine hK.out _ _ (fun h => absurd h (by decide)) ?_
      clear hK
      try simp only [Act.put]
      refine wpAnyT_done (by kernel_rfl) ?_ _
      go_wp2_with fail
      go_meet
      exact ⟨⟨_, _, _, _, _, rfl, GR.out, by omega, PN16.out.blk, PN16.out, Zv.out.mono (by omega)⟩, rfl⟩
  case rest =>
  obtain ⟨⟨bkv, nv, xv, adv, qv, rfl, b, gev, ltv, p, m⟩, rfl⟩ := hcut
  replace Za := hid (Za.out.now b)
  replace Zb := hid (Zb.out.now b)
  replace Zs := hid (Zs.out.now b)
  replace Zt := hid (Zt.out.now b)
  replace Zg := hid (Zg.out.now b)
  replace Zx := hid (Zx.out.now b)
  replace Zu := hid (Zu.out.now b)
  replace Zo := hid (Zo.out.now b)
  replace Pa := hid (Pa.out.step b)
  replace Pb := hid (Pb.out.step b)
  replace Ps := hid (Ps.out.step b)
  replace Pt := hid (Pt.out.step b)
  replace PRR := hid (PRR.out.step b)
  replace PRM := hid (PRM.out.step b)
  replace Pg := hid (Pg.out.step b)
  replace Px := hid (Px.out.step b)
  replace Pu := hid (Pu.out.step b)
  replace Po := hid (Po.out.step b)
  replace G := hid (below_step G.out b)
  have lz58 := (show Below _ _ _ from b).size
  have Zv := hid m
  have Pv := hid p
  clear b p m
  generalize wc = C58 at *
  replace Zv := hid (Zv.out.fit (mod_fit RN.out LTK.out))
  have cb0 := Pb.out.c0
  have cb1 := Pb.out.c1
  have co0 := Po.out.c0
  have co1 := Po.out.c1
  go_wp2_with fail
  clear cb0 cb1 co0 co1
  refine (mul_z Zb.out Zo.out.zi (by omega)).mono ?_
  rintro e w59 ⟨r0, rfl, m0, b⟩
  obtain ⟨np, xp, adp, qp, rfl, -, -, -, -, -⟩ := id m0
  replace Za := hid (Za.out.now b)
  replace Zb := hid (Zb.out.now b)
  replace Zs := hid (Zs.out.now b)
  replace Zt := hid (Zt.out.now b)
  replace Zg := hid (Zg.out.now b)
  replace Zx := hid (Zx.out.now b)
  replace Zu := hid (Zu.out.now b)
  replace Zo := hid (Zo.out.now b)
  replace Zv := hid (Zv.out.now b)
  replace Pa := hid (Pa.out.step b)
  replace Pb := hid (Pb.out.step b)
  replace Ps := hid (Ps.out.step b)
  replace Pt := hid (Pt.out.step b)
  replace PRR := hid (PRR.out.step b)
  replace PRM := hid (PRM.out.step b)
  replace Pg := hid (Pg.out.step b)
  replace Px := hid (Px.out.step b)
  replace Pu := hid (Pu.out.step b)
  replace Po := hid (Po.out.step b)
  replace Pv := hid (Pv.out.step b)
  replace G := hid (below_step G.out b)
  have lz60 := (show Below _ _ _ from b).size
  have Zp := hid m0
  clear b m0
  go_wp2_with fail
  refine (abs_z Zp.out.zi).mono ?_
  rintro e w61 ⟨r0, rfl, m0, b⟩
  obtain ⟨nn, xn, adn, qn, rfl, -, -, -, -, -⟩ := id m0
  replace Za := hid (Za.out.now b)
  replace Zb := hid (Zb.out.now b)
  replace Zs := hid (Zs.out.now b)
  replace Zt := hid (Zt.out.now b)
  replace Zg := hid (Zg.out.now b)
  replace Zx := hid (Zx.out.now b)
  replace Zu := hid (Zu.out.now b)
  replace Zo := hid (Zo.out.now b)
  replace Zv := hid (Zv.out.now b)
  replace Zp := hid (Zp.out.now b)
  replace Pa := hid (Pa.out.step b)
  replace Pb := hid (Pb.out.step b)
  replace Ps := hid (Ps.out.step b)
  replace Pt := hid (Pt.out.step b)
  replace PRR := hid (PRR.out.step b)
  replace PRM := hid (PRM.out.step b)
  replace Pg := hid (Pg.out.step b)
  replace Px := hid (Px.out.step b)
  replace Pu := hid (Pu.out.step b)
  replace Po := hid (Po.out.step b)
  replace Pv := hid (Pv.out.step b)
  replace G := hid (below_step G.out b)
  have lz62 := (show Below _ _ _ from b).size
  have Zn := hid m0
  clear b m0
  clear Zp
  have cRM0 := PRM.out.c0
  have cRM1 := PRM.out.c1
  have fRM0 := PRM.out.fz 0
  have fRM1 := PRM.out.fz 1
  obtain ⟨V63, hW⟩ : ∃ V63, (w61.setCell ⟨w.heap.size + 1 + 1 + 1 + 1 + 1, 0, none⟩ (.bool nn)).setCell ⟨w.heap.size + 1 + 1 + 1 + 1 + 1, 1, none⟩ (.slice adn xn.length qn) = V63 := ⟨_, rfl⟩
  replace Za := hid ((Za.out).wk ((PRM.out).wk (.bool nn) (.slice adn xn.length qn)))
  replace Zb := hid ((Zb.out).wk ((PRM.out).wk (.bool nn) (.slice adn xn.length qn)))
  replace Zs := hid ((Zs.out).wk ((PRM.out).wk (.bool nn) (.slice adn xn.length qn)))
  replace Zt := hid ((Zt.out).wk ((PRM.out).wk (.bool nn) (.slice adn xn.length qn)))
  replace Zg := hid ((Zg.out).box (PRM.out) (.bool nn) (.slice adn xn.length qn))
  replace Zx := hid ((Zx.out).box (PRM.out) (.bool nn) (.slice adn xn.length qn))
  replace Zu := hid ((Zu.out).box (PRM.out) (.bool nn) (.slice adn xn.length qn))
  replace Zo := hid ((Zo.out).box (PRM.out) (.bool nn) (.slice adn xn.length qn))
  replace Zv := hid ((Zv.out).box (PRM.out) (.bool nn) (.slice adn xn.length qn))
  replace Zn := hid ((Zn.out).box (PRM.out) (.bool nn) (.slice adn xn.length qn))
  replace Pa := hid ((Pa.out).box (b' := w.heap.size + 1 + 1 + 1 + 1 + 1) (by omega) (.bool nn) (.slice adn xn.length qn))
  replace Pb := hid ((Pb.out).box (b' := w.heap.size + 1 + 1 + 1 + 1 + 1) (by omega) (.bool nn) (.slice adn xn.length qn))
  replace Ps := hid ((Ps.out).box (b' := w.heap.size + 1 + 1 + 1 + 1 + 1) (by omega) (.bool nn) (.slice adn xn.length qn))
  replace Pt := hid ((Pt.out).box (b' := w.heap.size + 1 + 1 + 1 + 1 + 1) (by omega) (.bool nn) (.slice adn xn.length qn))
  replace PRR := hid ((PRR.out).box (b' := w.heap.size + 1 + 1 + 1 + 1 + 1) (by omega) (.bool nn) (.slice adn xn.length qn))
  replace PRM := hid ((PRM.out).set (.bool nn) (.slice adn xn.length qn))
  replace Pg := hid ((Pg.out).box (b' := w.heap.size + 1 + 1 + 1 + 1 + 1) (by omega) (.bool nn) (.slice adn xn.length qn))
  replace Px := hid ((Px.out).box (b' := w.heap.size + 1 + 1 + 1 + 1 + 1) (by omega) (.bool nn) (.slice adn xn.length qn))
  replace Pu := hid ((Pu.out).box (b' := w.heap.size + 1 + 1 + 1 + 1 + 1) (by omega) (.bool nn) (.slice adn xn.length qn))
  replace Po := hid ((Po.out).box (b' := w.heap.size + 1 + 1 + 1 + 1 + 1) (by omega) (.bool nn) (.slice adn xn.length qn))
  replace Pv := hid ((Pv.out).box (b' := w.heap.size + 1 + 1 + 1 + 1 + 1) (by omega) (.bool nn) (.slice adn xn.length qn))
  replace G : Hid (Below w.heap.size w (((w61.setCell ⟨w.heap.size + 1 + 1 + 1 + 1 + 1, 0, none⟩ (.bool nn)).setCell ⟨w.heap.size + 1 + 1 + 1 + 1 + 1, 1, none⟩ (.slice adn xn.length qn)))) := bset (bset (G.out) (by omega)) (by omega)
  have sz63 : V63.heap.size = w61.heap.size := by rw [← hW]; simp
  rw [hW] at Za Zb Zs Zt Zg Zx Zu Zo Zv Zn Pa Pb Ps Pt PRR PRM Pg Px Pu Po Pv G
  have EW := hid hW
  clear hW
  go_wp2_with fail
  rw [EW.out]
  clear EW
  clear cRM0 cRM1 fRM0 fRM1
  have MN := hid CS.out.mn
  refine wp_region_tail (fun w' => w'.cell? ⟨bkv, 0, none⟩ = some (.bool nv) ∧ w'.cell? ⟨bkv, 1, none⟩ = some (.slice adv xv.length qv) ∧ w'.cell? ⟨w.heap.size + 1, 0, none⟩ = some (.bool nb) ∧ w'.cell? ⟨w.heap.size + 1, 1, none⟩ = some (.slice adb xb.length cb) ∧ w'.cell? ⟨w.heap.size, 0, none⟩ = some (.bool na) ∧ w'.cell? ⟨w.heap.size, 1, none⟩ = some (.slice ada xa.length ca) ∧ w'.cell? ⟨w.heap.size + 1 + 1 + 1 + 1 + 1, 0, none⟩ = some (.bool nn) ∧ w'.cell? ⟨w.heap.size + 1 + 1 + 1 + 1 + 1, 1, none⟩ = some (.slice adn xn.length qn)) 10 (by kernel_rfl) ?_
  obtain ⟨D64, hD⟩ : ∃ D64, V63.drew = D64 := ⟨_, rfl⟩
  have b : Below V63.heap.size V63 D64 := by rw [← hD]; exact (Below.refl _ _).drew
  rw [hD]
  clear hD
  replace Za := hid (Za.out.now b)
  replace Zb := hid (Zb.out.now b)
  replace Zs := hid (Zs.out.now b)
  replace Zt := hid (Zt.out.now b)
  replace Zg := hid (Zg.out.now b)
  replace Zx := hid (Zx.out.now b)
  replace Zu := hid (Zu.out.now b)
  replace Zo := hid (Zo.out.now b)
  replace Zv := hid (Zv.out.now b)
  replace Zn := hid (Zn.out.now b)
  replace Pa := hid (Pa.out.step b)
  replace Pb := hid (Pb.out.step b)
  replace Ps := hid (Ps.out.step b)
  replace Pt := hid (Pt.out.step b)
  replace PRR := hid (PRR.out.step b)
  replace PRM := hid (PRM.out.step b)
  replace Pg := hid (Pg.out.step b)
  replace Px := hid (Px.out.step b)
  replace Pu := hid (Pu.out.step b)
  replace Po := hid (Po.out.step b)
  replace Pv := hid (Pv.out.step b)
  replace G := hid (below_step G.out b)
  have lz65 := (show Below _ _ _ from b).size
  clear b
  refine wpAnyT_takeA (i := 0) (oi := { dst := some 65, op := Op.load 25 (Operand.tmp 16), type := 25, pos := "modulo.go:64", after := #[], guard := none }) (v := (.agg #[(.bool nv), (.slice adv xv.length qv)])) rfl (by kernel_rfl) (fun _ _ _ h => h) (Or.inl ⟨by rfl, ?_⟩) ⟨Pv.out.c0, Pv.out.c1, Pb.out.c0, Pb.out.c1, Pa.out.c0, Pa.out.c1, PRM.out.c0, PRM.out.c1⟩ ?_
  · intro w hSw
    (try dsimp only at hSw)
    go_simp
  simp only [Act.put, List.setIfInBounds_toArray, List.set_cons_zero, List.set_cons_succ]
  refine wpAnyT_takeA (i := 1) (oi := { dst := some 66, op := Op.load 25 (Operand.tmp 5), type := 25, pos := "modulo.go:64", after := #[], guard := none }) (v := (.agg #[(.bool nb), (.slice adb xb.length cb)])) rfl (by kernel_rfl) (fun _ _ _ h => h) (Or.inl ⟨by rfl, ?_⟩) ⟨Pv.out.c0, Pv.out.c1, Pb.out.c0, Pb.out.c1, Pa.out.c0, Pa.out.c1, PRM.out.c0, PRM.out.c1⟩ ?_
  · intro w hSw
    (try dsimp only at hSw)
    go_simp
  simp only [Act.put, List.setIfInBounds_toArray, List.set_cons_zero, List.set_cons_succ]
  refine wpAnyT_takeA (i := 2) (oi := { dst := some 67, op := Op.load 25 (Operand.tmp 4), type := 25, pos := "modulo.go:64", after := #[], guard := none }) (v := (.agg #[(.bool na), (.slice ada xa.length ca)])) rfl (by kernel_rfl) (fun _ _ _ h => h) (Or.inl ⟨by rfl, ?_⟩) ⟨Pv.out.c0, Pv.out.c1, Pb.out.c0, Pb.out.c1, Pa.out.c0, Pa.out.c1, PRM.out.c0, PRM.out.c1⟩ ?_
  · intro w hSw
    (try dsimp only at hSw)
    go_simp
  simp only [Act.put, List.setIfInBounds_toArray, List.set_cons_zero, List.set_cons_succ]
  refine wpAnyT_takeA (i := 4) (oi := { dst := some 69, op := Op.load 25 (Operand.tmp 9), type := 25, pos := "modulo.go:64", after := #[], guard := none }) (v := (.agg #[(.bool nn), (.slice adn xn.length qn)])) rfl (by kernel_rfl) (fun _ _ _ h => h) (Or.inl ⟨by rfl, ?_⟩) ⟨Pv.out.c0, Pv.out.c1, Pb.out.c0, Pb.out.c1, Pa.out.c0, Pa.out.c1, PRM.out.c0, PRM.out.c1⟩ ?_
  · intro w hSw
    (try dsimp only at hSw)
    go_simp
  simp only [Act.put, List.setIfInBounds_toArray, List.set_cons_zero, List.set_cons_succ]
  refine wpAnyT_one (i := 3) (o := { dst := some 68, op := Op.call { callee := Callee.value (Operand.func 56), args := #[Operand.tmp 65, Operand.tmp 66, Operand.tmp 67], argTypes := #[25, 25, 25] }, type := 25, pos := "modulo.go:64", after := #[{ on := 0, ground := Ground.data }, { on := 1, ground := Ground.data }, { on := 2, ground := Ground.data }], guard := none }) (by kernel_rfl) rfl (fun K hK => ?_)
  go_simp
  go_at_call 56
  refine (mulAdd_z Zv.out.zi Zb.out Za.out (by omega) (by omega)).mono ?_
  rintro e w66 ⟨r0, rfl, m0, b⟩
  obtain ⟨np, xp, adp, qp, rfl, -, -, -, -, -⟩ := id m0
  replace Za := hid (Za.out.now b)
  replace Zb := hid (Zb.out.now b)
  replace Zs := hid (Zs.out.now b)
  replace Zt := hid (Zt.out.now b)
  replace Zg := hid (Zg.out.now b)
  replace Zx := hid (Zx.out.now b)
  replace Zu := hid (Zu.out.now b)
  replace Zo := hid (Zo.out.now b)
  replace Zv := hid (Zv.out.now b)
  replace Zn := hid (Zn.out.now b)
  replace Pa := hid (Pa.out.step b)
  replace Pb := hid (Pb.out.step b)
  replace Ps := hid (Ps.out.step b)
  replace Pt := hid (Pt.out.step b)
  replace PRR := hid (PRR.out.step b)
  replace PRM := hid (PRM.out.step b)
  replace Pg := hid (Pg.out.step b)
  replace Px := hid (Px.out.step b)
  replace Pu := hid (Pu.out.step b)
  replace Po := hid (Po.out.step b)
  replace Pv := hid (Pv.out.step b)
  replace G := hid (below_step G.out b)
  have lz67 := (show Below _ _ _ from b).size
  have Zp := hid m0
  clear b m0
  refine hK.out _ _ (fun _ => ⟨Pv.out.c0, Pv.out.c1, Pb.out.c0, Pb.out.c1, Pa.out.c0, Pa.out.c1, PRM.out.c0, PRM.out.c1⟩) ?_
  clear hK
  refine wpAnyT_one (i := 5) (o := { dst := some 70, op := Op.call { callee := Callee.value (Operand.func 55), args := #[Operand.tmp 68, Operand.tmp 69], argTypes := #[25, 25] }, type := 47, pos := "modulo.go:64", after := #[{ on := 3, ground := Ground.data }, { on := 4, ground := Ground.data }, { on := 3, ground := Ground.chain }], guard := none }) (by kernel_rfl) rfl (fun K hK => ?_)
  go_simp
  go_at_call 55
  refine (mod_z Zp.out.zi Zn.out.zi MN.out (by omega) (by omega)).mono ?_
  rintro e w68 ⟨r0, rfl, m0, b⟩
  obtain ⟨nh, xh, adh, qh, rfl, -, -, -, -, -⟩ := id m0
  replace Za := hid (Za.out.now b)
  replace Zb := hid (Zb.out.now b)
  replace Zs := hid (Zs.out.now b)
  replace Zt := hid (Zt.out.now b)
  replace Zg := hid (Zg.out.now b)
  replace Zx := hid (Zx.out.now b)
  replace Zu := hid (Zu.out.now b)
  replace Zo := hid (Zo.out.now b)
  replace Zv := hid (Zv.out.now b)
  replace Zn := hid (Zn.out.now b)
  replace Zp := hid (Zp.out.now b)
  replace Pa := hid (Pa.out.step b)
  replace Pb := hid (Pb.out.step b)
  replace Ps := hid (Ps.out.step b)
  replace Pt := hid (Pt.out.step b)
  replace PRR := hid (PRR.out.step b)
  replace PRM := hid (PRM.out.step b)
  replace Pg := hid (Pg.out.step b)
  replace Px := hid (Px.out.step b)
  replace Pu := hid (Pu.out.step b)
  replace Po := hid (Po.out.step b)
  replace Pv := hid (Pv.out.step b)
  replace G := hid (below_step G.out b)
  have lz69 := (show Below _ _ _ from b).size
  have Zh := hid m0
  clear b m0
  refine hK.out _ _ (fun _ => ⟨Pv.out.c0, Pv.out.c1, Pb.out.c0, Pb.out.c1, Pa.out.c0, Pa.out.c1, PRM.out.c0, PRM.out.c1⟩) ?_
  clear hK
  refine wpAnyT_takeA (i := 6) (oi := { dst := some 64, op := Op.move (Operand.tmp 70), type := 47, pos := "modulo.go:64", after := #[{ on := 5, ground := Ground.data }], guard := none }) (v := (.tuple #[(.agg #[.bool nh, .slice adh xh.length qh]), (.int .i64 0)])) rfl (by kernel_rfl) (fun _ _ _ h => h) (Or.inl ⟨by rfl, ?_⟩) ⟨Pv.out.c0, Pv.out.c1, Pb.out.c0, Pb.out.c1, Pa.out.c0, Pa.out.c1, PRM.out.c0, PRM.out.c1⟩ ?_
  · intro w hSw
    (try dsimp only at hSw)
    go_simp
  simp only [Act.put, List.setIfInBounds_toArray, List.set_cons_zero, List.set_cons_succ]
  refine wpAnyT_takeA (i := 7) (oi := { dst := some 71, op := Op.extract (Operand.tmp 64) 0, type := 25, pos := "modulo.go:64", after := #[{ on := 6, ground := Ground.data }], guard := none }) (v := (.agg #[.bool nh, .slice adh xh.length qh])) rfl (by kernel_rfl) (fun _ _ _ h => h) (Or.inl ⟨by rfl, ?_⟩) ⟨Pv.out.c0, Pv.out.c1, Pb.out.c0, Pb.out.c1, Pa.out.c0, Pa.out.c1, PRM.out.c0, PRM.out.c1⟩ ?_
  · intro w hSw
    (try dsimp only at hSw)
    go_simp
  simp only [Act.put, List.setIfInBounds_toArray, List.set_cons_zero, List.set_cons_succ]
  refine wpAnyT_takeA (i := 8) (oi := { dst := some 72, op := Op.extract (Operand.tmp 64) 1, type := 38, pos := "modulo.go:64", after := #[{ on := 6, ground := Ground.data }, { on := 9, ground := Ground.gcOnly Departure.lateStores }], guard := none }) (v := (.int .i64 0)) rfl (by kernel_rfl) (fun _ _ _ h => h) (Or.inl ⟨by rfl, ?_⟩) ⟨Pv.out.c0, Pv.out.c1, Pb.out.c0, Pb.out.c1, Pa.out.c0, Pa.out.c1, PRM.out.c0, PRM.out.c1⟩ ?_
  · intro w hSw
    (try dsimp only at hSw)
    go_simp
  simp only [Act.put, List.setIfInBounds_toArray, List.set_cons_zero, List.set_cons_succ]
  refine wpAnyT_one (i := 9) (o := { dst := none, op := Op.store 25 (Operand.tmp 8) (Operand.tmp 71), type := 0, pos := "modulo.go:64", after := #[{ on := 7, ground := Ground.data }, { on := 5, ground := Ground.chain }, { on := 0, ground := Ground.phase }, { on := 1, ground := Ground.phase }, { on := 2, ground := Ground.phase }, { on := 3, ground := Ground.phase }, { on := 4, ground := Ground.phase }, { on := 5, ground := Ground.phase }, { on := 6, ground := Ground.phase }, { on := 7, ground := Ground.phase }, { on := 8, ground := Ground.textOnly Departure.lateStores }], guard := none }) (by kernel_rfl) rfl (fun K hK => ?_)
  have cRR0 := PRR.out.c0
  have cRR1 := PRR.out.c1
  have fRR0 := PRR.out.fz 0
  have fRR1 := PRR.out.fz 1
  go_simp
  clear cRR0 cRR1 fRR0 fRR1
  obtain ⟨V70, hW⟩ : ∃ V70, (w68.setCell ⟨w.heap.size + 1 + 1 + 1 + 1, 0, none⟩ (.bool nh)).setCell ⟨w.heap.size + 1 + 1 + 1 + 1, 1, none⟩ (.slice adh xh.length qh) = V70 := ⟨_, rfl⟩
  replace Za := hid ((Za.out).wk ((PRR.out).wk (.bool nh) (.slice adh xh.length qh)))
  replace Zb := hid ((Zb.out).wk ((PRR.out).wk (.bool nh) (.slice adh xh.length qh)))
  replace Zs := hid ((Zs.out).wk ((PRR.out).wk (.bool nh) (.slice adh xh.length qh)))
  replace Zt := hid ((Zt.out).wk ((PRR.out).wk (.bool nh) (.slice adh xh.length qh)))
  replace Zg := hid ((Zg.out).box (PRR.out) (.bool nh) (.slice adh xh.length qh))
  replace Zx := hid ((Zx.out).box (PRR.out) (.bool nh) (.slice adh xh.length qh))
  replace Zu := hid ((Zu.out).box (PRR.out) (.bool nh) (.slice adh xh.length qh))
  replace Zo := hid ((Zo.out).box (PRR.out) (.bool nh) (.slice adh xh.length qh))
  replace Zv := hid ((Zv.out).box (PRR.out) (.bool nh) (.slice adh xh.length qh))
  replace Zn := hid ((Zn.out).box (PRR.out) (.bool nh) (.slice adh xh.length qh))
  replace Zp := hid ((Zp.out).box (PRR.out) (.bool nh) (.slice adh xh.length qh))
  replace Zh := hid ((Zh.out).box (PRR.out) (.bool nh) (.slice adh xh.length qh))
  replace Pa := hid ((Pa.out).box (b' := w.heap.size + 1 + 1 + 1 + 1) (by omega) (.bool nh) (.slice adh xh.length qh))
  replace Pb := hid ((Pb.out).box (b' := w.heap.size + 1 + 1 + 1 + 1) (by omega) (.bool nh) (.slice adh xh.length qh))
  replace Ps := hid ((Ps.out).box (b' := w.heap.size + 1 + 1 + 1 + 1) (by omega) (.bool nh) (.slice adh xh.length qh))
  replace Pt := hid ((Pt.out).box (b' := w.heap.size + 1 + 1 + 1 + 1) (by omega) (.bool nh) (.slice adh xh.length qh))
  replace PRR := hid ((PRR.out).set (.bool nh) (.slice adh xh.length qh))
  replace PRM := hid ((PRM.out).box (b' := w.heap.size + 1 + 1 + 1 + 1) (by omega) (.bool nh) (.slice adh xh.length qh))
  replace Pg := hid ((Pg.out).box (b' := w.heap.size + 1 + 1 + 1 + 1) (by omega) (.bool nh) (.slice adh xh.length qh))
  replace Px := hid ((Px.out).box (b' := w.heap.size + 1 + 1 + 1 + 1) (by omega) (.bool nh) (.slice adh xh.length qh))
  replace Pu := hid ((Pu.out).box (b' := w.heap.size + 1 + 1 + 1 + 1) (by omega) (.bool nh) (.slice adh xh.length qh))
  replace Po := hid ((Po.out).box (b' := w.heap.size + 1 + 1 + 1 + 1) (by omega) (.bool nh) (.slice adh xh.length qh))
  replace Pv := hid ((Pv.out).box (b' := w.heap.size + 1 + 1 + 1 + 1) (by omega) (.bool nh) (.slice adh xh.length qh))
  replace G : Hid (Below w.heap.size w (((w68.setCell ⟨w.heap.size + 1 + 1 + 1 + 1, 0, none⟩ (.bool nh)).setCell ⟨w.heap.size + 1 + 1 + 1 + 1, 1, none⟩ (.slice adh xh.length qh)))) := bset (bset (G.out) (by omega)) (by omega)
  have sz70 : V70.heap.size = w68.heap.size := by rw [← hW]; simp
  rw [hW] at Za Zb Zs Zt Zg Zx Zu Zo Zv Zn Zp Zh Pa Pb Ps Pt PRR PRM Pg Px Pu Po Pv G
  rw [hW]
  clear hW
  refine hK.out _ _ (fun _ => ⟨Pv.out.c0, Pv.out.c1, Pb.out.c0, Pb.out.c1, Pa.out.c0, Pa.out.c1, PRM.out.c0, PRM.out.c1⟩) ?_
  clear hK
  try simp only [Act.put]
  refine wpAnyT_done (by kernel_rfl) ?_ _
  clear Zp
  go_wp2_with fail
  refine wp_region_tail (fun w' => w'.cell? ⟨w.heap.size + 1 + 1 + 1 + 1, 0, none⟩ = some (.bool nh) ∧ w'.cell? ⟨w.heap.size + 1 + 1 + 1 + 1, 1, none⟩ = some (.slice adh xh.length qh) ∧ w'.cell? ⟨w.heap.size + 1 + 1 + 1 + 1 + 1, 0, none⟩ = some (.bool nn) ∧ w'.cell? ⟨w.heap.size + 1 + 1 + 1 + 1 + 1, 1, none⟩ = some (.slice adn xn.length qn)) 3 (by kernel_rfl) ?_
  obtain ⟨D71, hD⟩ : ∃ D71, V70.drew = D71 := ⟨_, rfl⟩
  have b : Below V70.heap.size V70 D71 := by rw [← hD]; exact (Below.refl _ _).drew
  rw [hD]
  clear hD
  replace Za := hid (Za.out.now b)
  replace Zb := hid (Zb.out.now b)
  replace Zs := hid (Zs.out.now b)
  replace Zt := hid (Zt.out.now b)
  replace Zg := hid (Zg.out.now b)
  replace Zx := hid (Zx.out.now b)
  replace Zu := hid (Zu.out.now b)
  replace Zo := hid (Zo.out.now b)
  replace Zv := hid (Zv.out.now b)
  replace Zn := hid (Zn.out.now b)
  replace Zh := hid (Zh.out.now b)
  replace Pa := hid (Pa.out.step b)
  replace Pb := hid (Pb.out.step b)
  replace Ps := hid (Ps.out.step b)
  replace Pt := hid (Pt.out.step b)
  replace PRR := hid (PRR.out.step b)
  replace PRM := hid (PRM.out.step b)
  replace Pg := hid (Pg.out.step b)
  replace Px := hid (Px.out.step b)
  replace Pu := hid (Pu.out.step b)
  replace Po := hid (Po.out.step b)
  replace Pv := hid (Pv.out.step b)
  replace G := hid (below_step G.out b)
  have lz72 := (show Below _ _ _ from b).size
  clear b
  refine wpAnyT_take (i := 0) (oi := { dst := some 73, op := Op.load 25 (Operand.tmp 8), type := 25, pos := "modulo.go:65", after := #[], guard := none }) (v := (.agg #[(.bool nh), (.slice adh xh.length qh)])) rfl (by kernel_rfl) (fun _ _ _ h => h) (Or.inl ⟨by rfl, ?_⟩) ⟨PRR.out.c0, PRR.out.c1, PRM.out.c0, PRM.out.c1⟩ ?_
  · intro w hSw
    (try dsimp only at hSw)
    go_simp
  simp only [Act.put, List.setIfInBounds_toArray, List.set_cons_zero, List.set_cons_succ]
  refine wpAnyT_take (i := 1) (oi := { dst := some 74, op := Op.load 25 (Operand.tmp 9), type := 25, pos := "modulo.go:65", after := #[{ on := 2, ground := Ground.gcOnly Departure.lateStores }], guard := none }) (v := (.agg #[(.bool nn), (.slice adn xn.length qn)])) rfl (by kernel_rfl) (fun _ _ _ h => h) (Or.inl ⟨by rfl, ?_⟩) ⟨PRR.out.c0, PRR.out.c1, PRM.out.c0, PRM.out.c1⟩ ?_
  · intro w hSw
    (try dsimp only at hSw)
    go_simp
  simp only [Act.put, List.setIfInBounds_toArray, List.set_cons_zero, List.set_cons_succ]
  refine wpAnyT_one (i := 2) (o := { dst := none, op := Op.store 25 (Operand.tmp 8) (Operand.tmp 73), type := 0, pos := "modulo.go:65", after := #[{ on := 0, ground := Ground.data }, { on := 0, ground := Ground.phase }, { on := 1, ground := Ground.textOnly Departure.lateStores }], guard := none }) (by kernel_rfl) rfl (fun K hK => ?_)
  have cRR0 := PRR.out.c0
  have cRR1 := PRR.out.c1
  have fRR0 := PRR.out.fz 0
  have fRR1 := PRR.out.fz 1
  go_simp
  clear cRR0 cRR1 fRR0 fRR1
  obtain ⟨V73, hW⟩ : ∃ V73, (D71.setCell ⟨w.heap.size + 1 + 1 + 1 + 1, 0, none⟩ (.bool nh)).setCell ⟨w.heap.size + 1 + 1 + 1 + 1, 1, none⟩ (.slice adh xh.length qh) = V73 := ⟨_, rfl⟩
  replace Za := hid ((Za.out).wk ((PRR.out).wk (.bool nh) (.slice adh xh.length qh)))
  replace Zb := hid ((Zb.out).wk ((PRR.out).wk (.bool nh) (.slice adh xh.length qh)))
  replace Zs := hid ((Zs.out).wk ((PRR.out).wk (.bool nh) (.slice adh xh.length qh)))
  replace Zt := hid ((Zt.out).wk ((PRR.out).wk (.bool nh) (.slice adh xh.length qh)))
  replace Zg := hid ((Zg.out).box (PRR.out) (.bool nh) (.slice adh xh.length qh))
  replace Zx := hid ((Zx.out).box (PRR.out) (.bool nh) (.slice adh xh.length qh))
  replace Zu := hid ((Zu.out).box (PRR.out) (.bool nh) (.slice adh xh.length qh))
  replace Zo := hid ((Zo.out).box (PRR.out) (.bool nh) (.slice adh xh.length qh))
  replace Zv := hid ((Zv.out).box (PRR.out) (.bool nh) (.slice adh xh.length qh))
  replace Zn := hid ((Zn.out).box (PRR.out) (.bool nh) (.slice adh xh.length qh))
  replace Zh := hid ((Zh.out).box (PRR.out) (.bool nh) (.slice adh xh.length qh))
  replace Pa := hid ((Pa.out).box (b' := w.heap.size + 1 + 1 + 1 + 1) (by omega) (.bool nh) (.slice adh xh.length qh))
  replace Pb := hid ((Pb.out).box (b' := w.heap.size + 1 + 1 + 1 + 1) (by omega) (.bool nh) (.slice adh xh.length qh))
  replace Ps := hid ((Ps.out).box (b' := w.heap.size + 1 + 1 + 1 + 1) (by omega) (.bool nh) (.slice adh xh.length qh))
  replace Pt := hid ((Pt.out).box (b' := w.heap.size + 1 + 1 + 1 + 1) (by omega) (.bool nh) (.slice adh xh.length qh))
  replace PRR := hid ((PRR.out).set (.bool nh) (.slice adh xh.length qh))
  replace PRM := hid ((PRM.out).box (b' := w.heap.size + 1 + 1 + 1 + 1) (by omega) (.bool nh) (.slice adh xh.length qh))
  replace Pg := hid ((Pg.out).box (b' := w.heap.size + 1 + 1 + 1 + 1) (by omega) (.bool nh) (.slice adh xh.length qh))
  replace Px := hid ((Px.out).box (b' := w.heap.size + 1 + 1 + 1 + 1) (by omega) (.bool nh) (.slice adh xh.length qh))
  replace Pu := hid ((Pu.out).box (b' := w.heap.size + 1 + 1 + 1 + 1) (by omega) (.bool nh) (.slice adh xh.length qh))
  replace Po := hid ((Po.out).box (b' := w.heap.size + 1 + 1 + 1 + 1) (by omega) (.bool nh) (.slice adh xh.length qh))
  replace Pv := hid ((Pv.out).box (b' := w.heap.size + 1 + 1 + 1 + 1) (by omega) (.bool nh) (.slice adh xh.length qh))
  replace G : Hid (Below w.heap.size w (((D71.setCell ⟨w.heap.size + 1 + 1 + 1 + 1, 0, none⟩ (.bool nh)).setCell ⟨w.heap.size + 1 + 1 + 1 + 1, 1, none⟩ (.slice adh xh.length qh)))) := bset (bset (G.out) (by omega)) (by omega)
  have sz73 : V73.heap.size = D71.heap.size := by rw [← hW]; simp
  rw [hW] at Za Zb Zs Zt Zg Zx Zu Zo Zv Zn Zh Pa Pb Ps Pt PRR PRM Pg Px Pu Po Pv G
  rw [hW]
  clear hW
  refine hK.out _ _ (fun _ => ⟨PRR.out.c0, PRR.out.c1, PRM.out.c0, PRM.out.c1⟩) ?_
  clear hK
  try simp only [Act.put]
  refine wpAnyT_one (i := 3) (o := { dst := none, op := Op.store 25 (Operand.tmp 9) (Operand.tmp 74), type := 0, pos := "modulo.go:65", after := #[{ on := 1, ground := Ground.data }, { on := 2, ground := Ground.chain }, { on := 0, ground := Ground.phase }, { on := 1, ground := Ground.phase }, { on := 2, ground := Ground.phase }], guard := none }) (by kernel_rfl) rfl (fun K hK => ?_)
  have cRM0 := PRM.out.c0
  have cRM1 := PRM.out.c1
  have fRM0 := PRM.out.fz 0
  have fRM1 := PRM.out.fz 1
  go_simp
  clear cRM0 cRM1 fRM0 fRM1
  obtain ⟨V74, hW⟩ : ∃ V74, (V73.setCell ⟨w.heap.size + 1 + 1 + 1 + 1 + 1, 0, none⟩ (.bool nn)).setCell ⟨w.heap.size + 1 + 1 + 1 + 1 + 1, 1, none⟩ (.slice adn xn.length qn) = V74 := ⟨_, rfl⟩
  replace Za := hid ((Za.out).wk ((PRM.out).wk (.bool nn) (.slice adn xn.length qn)))
  replace Zb := hid ((Zb.out).wk ((PRM.out).wk (.bool nn) (.slice adn xn.length qn)))
  replace Zs := hid ((Zs.out).wk ((PRM.out).wk (.bool nn) (.slice adn xn.length qn)))
  replace Zt := hid ((Zt.out).wk ((PRM.out).wk (.bool nn) (.slice adn xn.length qn)))
  replace Zg := hid ((Zg.out).box (PRM.out) (.bool nn) (.slice adn xn.length qn))
  replace Zx := hid ((Zx.out).box (PRM.out) (.bool nn) (.slice adn xn.length qn))
  replace Zu := hid ((Zu.out).box (PRM.out) (.bool nn) (.slice adn xn.length qn))
  replace Zo := hid ((Zo.out).box (PRM.out) (.bool nn) (.slice adn xn.length qn))
  replace Zv := hid ((Zv.out).box (PRM.out) (.bool nn) (.slice adn xn.length qn))
  replace Zn := hid ((Zn.out).box (PRM.out) (.bool nn) (.slice adn xn.length qn))
  replace Zh := hid ((Zh.out).box (PRM.out) (.bool nn) (.slice adn xn.length qn))
  replace Pa := hid ((Pa.out).box (b' := w.heap.size + 1 + 1 + 1 + 1 + 1) (by omega) (.bool nn) (.slice adn xn.length qn))
  replace Pb := hid ((Pb.out).box (b' := w.heap.size + 1 + 1 + 1 + 1 + 1) (by omega) (.bool nn) (.slice adn xn.length qn))
  replace Ps := hid ((Ps.out).box (b' := w.heap.size + 1 + 1 + 1 + 1 + 1) (by omega) (.bool nn) (.slice adn xn.length qn))
  replace Pt := hid ((Pt.out).box (b' := w.heap.size + 1 + 1 + 1 + 1 + 1) (by omega) (.bool nn) (.slice adn xn.length qn))
  replace PRR := hid ((PRR.out).box (b' := w.heap.size + 1 + 1 + 1 + 1 + 1) (by omega) (.bool nn) (.slice adn xn.length qn))
  replace PRM := hid ((PRM.out).set (.bool nn) (.slice adn xn.length qn))
  replace Pg := hid ((Pg.out).box (b' := w.heap.size + 1 + 1 + 1 + 1 + 1) (by omega) (.bool nn) (.slice adn xn.length qn))
  replace Px := hid ((Px.out).box (b' := w.heap.size + 1 + 1 + 1 + 1 + 1) (by omega) (.bool nn) (.slice adn xn.length qn))
  replace Pu := hid ((Pu.out).box (b' := w.heap.size + 1 + 1 + 1 + 1 + 1) (by omega) (.bool nn) (.slice adn xn.length qn))
  replace Po := hid ((Po.out).box (b' := w.heap.size + 1 + 1 + 1 + 1 + 1) (by omega) (.bool nn) (.slice adn xn.length qn))
  replace Pv := hid ((Pv.out).box (b' := w.heap.size + 1 + 1 + 1 + 1 + 1) (by omega) (.bool nn) (.slice adn xn.length qn))
  replace G : Hid (Below w.heap.size w (((V73.setCell ⟨w.heap.size + 1 + 1 + 1 + 1 + 1, 0, none⟩ (.bool nn)).setCell ⟨w.heap.size + 1 + 1 + 1 + 1 + 1, 1, none⟩ (.slice adn xn.length qn)))) := bset (bset (G.out) (by omega)) (by omega)
  have sz74 : V74.heap.size = V73.heap.size := by rw [← hW]; simp
  rw [hW] at Za Zb Zs Zt Zg Zx Zu Zo Zv Zn Zh Pa Pb Ps Pt PRR PRM Pg Px Pu Po Pv G
  rw [hW]
  clear hW
  refine hK.out _ _ (fun h => absurd h (by decide)) ?_
  clear hK
  try simp only [Act.put]
  refine wpAnyT_one (i := 4) (o := { dst := some 10, op := Op.assign (Operand.const (Value.int IntKind.i64 0)), type := 38, pos := "modulo.go:65", after := #[{ on := 3, ground := Ground.chain }, { on := 0, ground := Ground.phase }, { on := 1, ground := Ground.phase }, { on := 2, ground := Ground.phase }, { on := 3, ground := Ground.phase }], guard := none }) (by kernel_rfl) rfl (fun K hK => ?_)
  go_simp
  refine hK.out _ _ (fun h => absurd h (by decide)) ?_
  clear hK
  try simp only [Act.put]
  refine wpAnyT_done (by kernel_rfl) ?_ _
  have YH := hid (Zh.out.fit FR.out)
  have YN := hid (Zn.out.fit FM.out)
  go_wp2
  exact bodyPost_ret (zback2 Try.results33 PRR.out PRM.out _ (by rfl) (by rfl) (by rfl)) rfl ⟨_, _, CS.out.v, _, _, rfl, YH.out.mono (by omega), YN.out.mono (by omega), G.out⟩
end Go.Proofs.Ytkikiddoiigbjaa
