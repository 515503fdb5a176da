/-
  Divides2: the walk of ZintDivides where there is no rest.
-/
import Derived.Test.YtgdlecghpbckpaaDoorQZDivs
namespace Go.Proofs.YtgdlecghpbckpaaDoor
open Go.RowKit
set_option linter.unusedVariables false

set_option maxHeartbeats 12800000 in
set_option maxRecDepth 100000 in
theorem zintDivides_none {w : World} {va vb : Value} {A B : Int} (ha : Zi w va A 1048576) (hb : Zi w vb B 1048576) (hT : Sg w) (hB : B ≠ 0) (hR : A.tmod B = 0) :
    Calls Tryd.prog 4 #[va, vb] w fun e w' => e = .returned (.bool true) ∧ Below w.heap.size w w' := by
  have D := hid (divs (A := A) hB)
  have HB0 := hid hB
  have HR := hid hR
  have sB : cmpI B 0 ≠ 0 := fun e => hB (cmpI_zero e)
  have bR := cmpI_bound (A.tmod B) 0
  have bA := cmpI_bound A 0
  have bB := cmpI_bound B 0
  have bS := cmpI_bound (fmd A B) 0
  have E1 : Hid (∀ w', _) := fun (w' : World) (v : Value) (k : Nat) (h : Zi w' v (A.tmod B) k) => sign_z h
  have E2 : Hid (∀ w', _) := fun (w' : World) (v : Value) (k : Nat) (h : Zi w' v A k) => sign_z h
  have E3 : Hid (∀ w', _) := fun (w' : World) (v : Value) (k : Nat) (h : Zi w' v B k) => sign_z h
  have E4 : Hid (∀ w', _) := fun (w' : World) (v : Value) (k : Nat) (h : Zi w' v (fmd A B) k) => sign_z h
  have E5 : Hid (∀ w', _) := fun (w' : World) (v u : Value) (k l : Nat) (h : Zi w' v (A.tmod B) k) (h' : Zi w' u B l) => int_as (cmpAbs_z h h') (cmpI_lt D.out.t2)
  have E6 : Hid (∀ w', _) := fun (w' : World) (v u : Value) (k l : Nat) (h : Zi w' v (fmd A B) k) (h' : Zi w' u B l) => int_as (cmpAbs_z h h') (cmpI_lt D.out.f2)
  have E7 : Hid (∀ w', _) := fun (w' : World) (v : Value) (k : Nat) (h : Zi w' v (A % B) k) => sign_z h
  have g1 := D.out.t3
  have g2 := D.out.f3
  have sR : cmpI (A.tmod B) 0 = 0 := by rw [hR]; exact cmpI_self 0
  generalize cmpI (A.tmod B) 0 = SR at *
  generalize cmpI A 0 = SA at *
  generalize cmpI B 0 = SB at *
  generalize cmpI (fmd A B) 0 = SS at *
  generalize cmpI (A % B) 0 = ST at *
  have k1 : IntKind.i64.wrap (SR * SA) = SR * SA := wrap_mul bR bA
  have k2 : IntKind.i64.wrap (SS * SB) = SS * SB := wrap_mul bS bB
  have d1 : decide (SR * SA < 0) = false := decide_eq_false g1
  have d2 : decide (SS * SB < 0) = false := decide_eq_false g2
  have q0 : (SB == 0) = false := by simp [sB]
  have q1 : ((0 : Int) != 0) = false := rfl
  have q2 : ((0 : Int) == 0) = true := rfl
  have q3 : (SR != 0) = false := by simp [sR]
  clear hB hR sB bR bA bB bS sR
  have ha0 := hid ha
  obtain ⟨na, xa, aa, ca, rfl, -, -, -⟩ := ha
  have hb0 := hid hb
  obtain ⟨nb, xb, ab, cb, rfl, -, -, -⟩ := hb
  obtain ⟨W0, hW0⟩ : ∃ W0, (w.alloc (duo (.bool na) (.slice aa xa.length ca))).alloc (duo (.bool nb) (.slice ab xb.length cb)) = W0 := ⟨_, rfl⟩
  obtain ⟨b0, sz0⟩ := alloc2 w (duo (.bool na) (.slice aa xa.length ca)) (duo (.bool nb) (.slice ab xb.length cb))
  rw [hW0] at b0 sz0
  have p0 : Duo W0 (w.heap.size) (.bool na) (.slice aa xa.length ca) := by rw [← hW0]; exact duo_late (duo_at (by simp)) _
  have Za := hid (ha0.out.now b0)
  have p1 : Duo W0 (w.heap.size + 1) (.bool nb) (.slice ab xb.length cb) := by rw [← hW0]; exact duo_at (by simp)
  have Zb := hid (hb0.out.now b0)
  have HKB : Hid (∀ w', Below W0.heap.size W0 w' → w'.cell? ⟨w.heap.size, 0, none⟩ = some (.bool na) ∧ w'.cell? ⟨w.heap.size, 1, none⟩ = some (.slice aa xa.length ca) ∧ w'.cell? ⟨w.heap.size + 1, 0, none⟩ = some (.bool nb) ∧ w'.cell? ⟨w.heap.size + 1, 1, none⟩ = some (.slice ab xb.length cb)) := fun w' h => ⟨(p0.below h (by omega)).c0, (p0.below h (by omega)).c1, (p1.below h (by omega)).c0, (p1.below h (by omega)).c1⟩
  have HT := hid (hT.now b0)
  have G := hid b0
  have EW := hid hW0
  clear b0 hW0 p0 p1 ha0 hb0 hT
  go_enter Tryd.func4, Tryd.ntmps4
  go_wp2_with fail
  rw [EW.out]
  clear EW
  refine (awake5_any HT.out).mono ?_
  rintro e wA ⟨rfl, bA⟩
  replace Za := hid (Za.out.now bA)
  replace Zb := hid (Zb.out.now bA)
  replace G := hid (below_step G.out bA)
  replace HKB : Hid (∀ w', Below wA.heap.size wA w' → w'.cell? ⟨w.heap.size, 0, none⟩ = some (.bool na) ∧ w'.cell? ⟨w.heap.size, 1, none⟩ = some (.slice aa xa.length ca) ∧ w'.cell? ⟨w.heap.size + 1, 0, none⟩ = some (.bool nb) ∧ w'.cell? ⟨w.heap.size + 1, 1, none⟩ = some (.slice ab xb.length cb)) := fun w' h => HKB.out w' (below_step bA h)
  clear bA HT
  obtain ⟨c0, c1, c2, c3⟩ := HKB.out wA (Below.refl _ _)
  go_wp2_with fail
  clear c0 c1 c2 c3
  refine (trunc_z Za.out Zb.out HB0.out (by decide) (by decide)).mono ?_
  rintro e w1 ⟨r0, r1, rfl, m0, m1, b⟩
  obtain ⟨nq, xq, aq, cq, rfl, -, -, -, -, -⟩ := id m0
  obtain ⟨nr, xr, ar, cr, rfl, -, -, -, -, -⟩ := id m1
  obtain ⟨W1, hW⟩ : ∃ W1, (w1.alloc (duo (.bool nq) (.slice aq xq.length cq))).alloc (duo (.bool nr) (.slice ar xr.length cr)) = W1 := ⟨_, rfl⟩
  obtain ⟨kW, sz1⟩ := alloc2 w1 (duo (.bool nq) (.slice aq xq.length cq)) (duo (.bool nr) (.slice ar xr.length cr))
  rw [hW] at kW sz1
  have p0 : Duo W1 (w1.heap.size) (.bool nq) (.slice aq xq.length cq) := by rw [← hW]; exact duo_late (duo_at (by simp)) _
  have p1 : Duo W1 (w1.heap.size + 1) (.bool nr) (.slice ar xr.length cr) := by rw [← hW]; exact duo_at (by simp)
  replace b := below_step b kW
  replace Za := hid (Za.out.now b)
  replace Zb := hid (Zb.out.now b)
  replace G := hid (below_step G.out b)
  have Zq := hid (m0.now kW)
  have Zr := hid (m1.now kW)
  replace HKB : Hid (∀ w', Below W1.heap.size W1 w' → w'.cell? ⟨w.heap.size, 0, none⟩ = some (.bool na) ∧ w'.cell? ⟨w.heap.size, 1, none⟩ = some (.slice aa xa.length ca) ∧ w'.cell? ⟨w.heap.size + 1, 0, none⟩ = some (.bool nb) ∧ w'.cell? ⟨w.heap.size + 1, 1, none⟩ = some (.slice ab xb.length cb) ∧ w'.cell? ⟨w1.heap.size, 0, none⟩ = some (.bool nq) ∧ w'.cell? ⟨w1.heap.size, 1, none⟩ = some (.slice aq xq.length cq) ∧ w'.cell? ⟨w1.heap.size + 1, 0, none⟩ = some (.bool nr) ∧ w'.cell? ⟨w1.heap.size + 1, 1, none⟩ = some (.slice ar xr.length cr)) := fun w' h => by
    obtain ⟨q0, q1, q2, q3⟩ := HKB.out w' (below_step b h)
    exact ⟨q0, q1, q2, q3, (p0.below h (by omega)).c0, (p0.below h (by omega)).c1, (p1.below h (by omega)).c0, (p1.below h (by omega)).c1⟩
  obtain ⟨c0, c1, c2, c3, c4, c5, c6, c7⟩ := HKB.out W1 (Below.refl _ _)
  rw [← hW] at c0 c1 c2 c3 c4 c5 c6 c7
  have EW := hid hW
  clear b kW hW p0 m0 p1 m1
  go_wp2_with fail
  rw [EW.out]
  clear EW
  clear c0 c1 c2 c3 c4 c5 c6 c7
  refine (floor_z Za.out Zb.out HB0.out (by decide) (by decide)).mono ?_
  rintro e w2 ⟨r0, r1, rfl, m0, m1, b⟩
  obtain ⟨np, xp, ap, cp, rfl, -, -, -, -, -⟩ := id m0
  obtain ⟨nsv, xsv, asv, csv, rfl, -, -, -, -, -⟩ := id m1
  obtain ⟨W2, hW⟩ : ∃ W2, (w2.alloc (duo (.bool np) (.slice ap xp.length cp))).alloc (duo (.bool nsv) (.slice asv xsv.length csv)) = W2 := ⟨_, rfl⟩
  obtain ⟨kW, sz2⟩ := alloc2 w2 (duo (.bool np) (.slice ap xp.length cp)) (duo (.bool nsv) (.slice asv xsv.length csv))
  rw [hW] at kW sz2
  have p0 : Duo W2 (w2.heap.size) (.bool np) (.slice ap xp.length cp) := by rw [← hW]; exact duo_late (duo_at (by simp)) _
  have p1 : Duo W2 (w2.heap.size + 1) (.bool nsv) (.slice asv xsv.length csv) := by rw [← hW]; exact duo_at (by simp)
  replace b := below_step b kW
  replace Za := hid (Za.out.now b)
  replace Zb := hid (Zb.out.now b)
  replace Zq := hid (Zq.out.now b)
  replace Zr := hid (Zr.out.now b)
  replace G := hid (below_step G.out b)
  have Zp := hid (m0.now kW)
  have Zsv := hid (m1.now kW)
  replace HKB : Hid (∀ w', Below W2.heap.size W2 w' → w'.cell? ⟨w.heap.size, 0, none⟩ = some (.bool na) ∧ w'.cell? ⟨w.heap.size, 1, none⟩ = some (.slice aa xa.length ca) ∧ w'.cell? ⟨w.heap.size + 1, 0, none⟩ = some (.bool nb) ∧ w'.cell? ⟨w.heap.size + 1, 1, none⟩ = some (.slice ab xb.length cb) ∧ w'.cell? ⟨w1.heap.size, 0, none⟩ = some (.bool nq) ∧ w'.cell? ⟨w1.heap.size, 1, none⟩ = some (.slice aq xq.length cq) ∧ w'.cell? ⟨w1.heap.size + 1, 0, none⟩ = some (.bool nr) ∧ w'.cell? ⟨w1.heap.size + 1, 1, none⟩ = some (.slice ar xr.length cr) ∧ w'.cell? ⟨w2.heap.size, 0, none⟩ = some (.bool np) ∧ w'.cell? ⟨w2.heap.size, 1, none⟩ = some (.slice ap xp.length cp) ∧ w'.cell? ⟨w2.heap.size + 1, 0, none⟩ = some (.bool nsv) ∧ w'.cell? ⟨w2.heap.size + 1, 1, none⟩ = some (.slice asv xsv.length csv)) := fun w' h => by
    obtain ⟨q0, q1, q2, q3, q4, q5, q6, q7⟩ := HKB.out w' (below_step b h)
    exact ⟨q0, q1, q2, q3, q4, q5, q6, q7, (p0.below h (by omega)).c0, (p0.below h (by omega)).c1, (p1.below h (by omega)).c0, (p1.below h (by omega)).c1⟩
  obtain ⟨c0, c1, c2, c3, c4, c5, c6, c7, c8, c9, c10, c11⟩ := HKB.out W2 (Below.refl _ _)
  rw [← hW] at c0 c1 c2 c3 c4 c5 c6 c7 c8 c9 c10 c11
  have EW := hid hW
  clear b kW hW p0 m0 p1 m1
  go_wp2_with fail
  rw [EW.out]
  clear EW
  clear c0 c1 c2 c3 c4 c5 c6 c7 c8 c9 c10 c11
  refine (euclid_z Za.out Zb.out HB0.out (by decide) (by decide)).mono ?_
  rintro e w3 ⟨r0, r1, rfl, m0, m1, b⟩
  obtain ⟨no, xo, ao, co, rfl, -, -, -, -, -⟩ := id m0
  obtain ⟨ntv, xtv, atv, ctv, rfl, -, -, -, -, -⟩ := id m1
  obtain ⟨W3, hW⟩ : ∃ W3, (w3.alloc (duo (.bool no) (.slice ao xo.length co))).alloc (duo (.bool ntv) (.slice atv xtv.length ctv)) = W3 := ⟨_, rfl⟩
  obtain ⟨kW, sz3⟩ := alloc2 w3 (duo (.bool no) (.slice ao xo.length co)) (duo (.bool ntv) (.slice atv xtv.length ctv))
  rw [hW] at kW sz3
  have p0 : Duo W3 (w3.heap.size) (.bool no) (.slice ao xo.length co) := by rw [← hW]; exact duo_late (duo_at (by simp)) _
  have p1 : Duo W3 (w3.heap.size + 1) (.bool ntv) (.slice atv xtv.length ctv) := by rw [← hW]; exact duo_at (by simp)
  replace b := below_step b kW
  replace Za := hid (Za.out.now b)
  replace Zb := hid (Zb.out.now b)
  replace Zq := hid (Zq.out.now b)
  replace Zr := hid (Zr.out.now b)
  replace Zp := hid (Zp.out.now b)
  replace Zsv := hid (Zsv.out.now b)
  replace G := hid (below_step G.out b)
  have Zo := hid (m0.now kW)
  have Ztv := hid (m1.now kW)
  replace HKB : Hid (∀ w', Below W3.heap.size W3 w' → w'.cell? ⟨w.heap.size, 0, none⟩ = some (.bool na) ∧ w'.cell? ⟨w.heap.size, 1, none⟩ = some (.slice aa xa.length ca) ∧ w'.cell? ⟨w.heap.size + 1, 0, none⟩ = some (.bool nb) ∧ w'.cell? ⟨w.heap.size + 1, 1, none⟩ = some (.slice ab xb.length cb) ∧ w'.cell? ⟨w1.heap.size, 0, none⟩ = some (.bool nq) ∧ w'.cell? ⟨w1.heap.size, 1, none⟩ = some (.slice aq xq.length cq) ∧ w'.cell? ⟨w1.heap.size + 1, 0, none⟩ = some (.bool nr) ∧ w'.cell? ⟨w1.heap.size + 1, 1, none⟩ = some (.slice ar xr.length cr) ∧ w'.cell? ⟨w2.heap.size, 0, none⟩ = some (.bool np) ∧ w'.cell? ⟨w2.heap.size, 1, none⟩ = some (.slice ap xp.length cp) ∧ w'.cell? ⟨w2.heap.size + 1, 0, none⟩ = some (.bool nsv) ∧ w'.cell? ⟨w2.heap.size + 1, 1, none⟩ = some (.slice asv xsv.length csv) ∧ w'.cell? ⟨w3.heap.size, 0, none⟩ = some (.bool no) ∧ w'.cell? ⟨w3.heap.size, 1, none⟩ = some (.slice ao xo.length co) ∧ w'.cell? ⟨w3.heap.size + 1, 0, none⟩ = some (.bool ntv) ∧ w'.cell? ⟨w3.heap.size + 1, 1, none⟩ = some (.slice atv xtv.length ctv)) := fun w' h => by
    obtain ⟨q0, q1, q2, q3, q4, q5, q6, q7, q8, q9, q10, q11⟩ := HKB.out w' (below_step b h)
    exact ⟨q0, q1, q2, q3, q4, q5, q6, q7, q8, q9, q10, q11, (p0.below h (by omega)).c0, (p0.below h (by omega)).c1, (p1.below h (by omega)).c0, (p1.below h (by omega)).c1⟩
  obtain ⟨c0, c1, c2, c3, c4, c5, c6, c7, c8, c9, c10, c11, c12, c13, c14, c15⟩ := HKB.out W3 (Below.refl _ _)
  rw [← hW] at c0 c1 c2 c3 c4 c5 c6 c7 c8 c9 c10 c11 c12 c13 c14 c15
  have EW := hid hW
  clear b kW hW p0 m0 p1 m1
  go_wp2_with fail
  rw [EW.out]
  clear EW
  clear c0 c1 c2 c3 c4 c5 c6 c7 c8 c9 c10 c11 c12 c13 c14 c15
  refine (exact_yes Za.out Zb.out HB0.out (by decide) (by decide) HR.out).mono ?_
  rintro e w4 ⟨r0, rfl, m0, b⟩
  obtain ⟨nx, xx, ax, cx, rfl, -, -, -, -, -⟩ := id m0
  obtain ⟨W4, hW⟩ : ∃ W4, w4.alloc (duo (.bool nx) (.slice ax xx.length cx)) = W4 := ⟨_, rfl⟩
  obtain ⟨kW, sz4⟩ := alloc1 w4 (duo (.bool nx) (.slice ax xx.length cx))
  rw [hW] at kW sz4
  have p0 : Duo W4 (w4.heap.size) (.bool nx) (.slice ax xx.length cx) := by rw [← hW]; exact duo_at (by simp)
  replace b := below_step b kW
  replace Za := hid (Za.out.now b)
  replace Zb := hid (Zb.out.now b)
  replace Zq := hid (Zq.out.now b)
  replace Zr := hid (Zr.out.now b)
  replace Zp := hid (Zp.out.now b)
  replace Zsv := hid (Zsv.out.now b)
  replace Zo := hid (Zo.out.now b)
  replace Ztv := hid (Ztv.out.now b)
  replace G := hid (below_step G.out b)
  have Zx := hid (m0.now kW)
  replace HKB : Hid (∀ w', Below W4.heap.size W4 w' → w'.cell? ⟨w.heap.size, 0, none⟩ = some (.bool na) ∧ w'.cell? ⟨w.heap.size, 1, none⟩ = some (.slice aa xa.length ca) ∧ w'.cell? ⟨w.heap.size + 1, 0, none⟩ = some (.bool nb) ∧ w'.cell? ⟨w.heap.size + 1, 1, none⟩ = some (.slice ab xb.length cb) ∧ w'.cell? ⟨w1.heap.size, 0, none⟩ = some (.bool nq) ∧ w'.cell? ⟨w1.heap.size, 1, none⟩ = some (.slice aq xq.length cq) ∧ w'.cell? ⟨w1.heap.size + 1, 0, none⟩ = some (.bool nr) ∧ w'.cell? ⟨w1.heap.size + 1, 1, none⟩ = some (.slice ar xr.length cr) ∧ w'.cell? ⟨w2.heap.size, 0, none⟩ = some (.bool np) ∧ w'.cell? ⟨w2.heap.size, 1, none⟩ = some (.slice ap xp.length cp) ∧ w'.cell? ⟨w2.heap.size + 1, 0, none⟩ = some (.bool nsv) ∧ w'.cell? ⟨w2.heap.size + 1, 1, none⟩ = some (.slice asv xsv.length csv) ∧ w'.cell? ⟨w3.heap.size, 0, none⟩ = some (.bool no) ∧ w'.cell? ⟨w3.heap.size, 1, none⟩ = some (.slice ao xo.length co) ∧ w'.cell? ⟨w3.heap.size + 1, 0, none⟩ = some (.bool ntv) ∧ w'.cell? ⟨w3.heap.size + 1, 1, none⟩ = some (.slice atv xtv.length ctv) ∧ w'.cell? ⟨w4.heap.size, 0, none⟩ = some (.bool nx) ∧ w'.cell? ⟨w4.heap.size, 1, none⟩ = some (.slice ax xx.length cx)) := fun w' h => by
    obtain ⟨q0, q1, q2, q3, q4, q5, q6, q7, q8, q9, q10, q11, q12, q13, q14, q15⟩ := HKB.out w' (below_step b h)
    exact ⟨q0, q1, q2, q3, q4, q5, q6, q7, q8, q9, q10, q11, q12, q13, q14, q15, (p0.below h (by omega)).c0, (p0.below h (by omega)).c1⟩
  obtain ⟨c0, c1, c2, c3, c4, c5, c6, c7, c8, c9, c10, c11, c12, c13, c14, c15, c16, c17⟩ := HKB.out W4 (Below.refl _ _)
  rw [← hW] at c0 c1 c2 c3 c4 c5 c6 c7 c8 c9 c10 c11 c12 c13 c14 c15 c16 c17
  have EW := hid hW
  clear b kW hW p0 m0
  go_wp2_with fail
  rw [EW.out]
  clear EW
  clear c0 c1 c2 c3 c4 c5 c6 c7 c8 c9 c10 c11 c12 c13 c14 c15 c16 c17
  refine (E3.out _ _ _ (Zb.out)).mono ?_
  rintro e w5 ⟨rfl, b⟩
  replace Za := hid (Za.out.now b)
  replace Zb := hid (Zb.out.now b)
  replace Zq := hid (Zq.out.now b)
  replace Zr := hid (Zr.out.now b)
  replace Zp := hid (Zp.out.now b)
  replace Zsv := hid (Zsv.out.now b)
  replace Zo := hid (Zo.out.now b)
  replace Ztv := hid (Ztv.out.now b)
  replace Zx := hid (Zx.out.now b)
  replace G := hid (below_step G.out b)
  replace HKB : Hid (∀ w', Below w5.heap.size w5 w' → w'.cell? ⟨w.heap.size, 0, none⟩ = some (.bool na) ∧ w'.cell? ⟨w.heap.size, 1, none⟩ = some (.slice aa xa.length ca) ∧ w'.cell? ⟨w.heap.size + 1, 0, none⟩ = some (.bool nb) ∧ w'.cell? ⟨w.heap.size + 1, 1, none⟩ = some (.slice ab xb.length cb) ∧ w'.cell? ⟨w1.heap.size, 0, none⟩ = some (.bool nq) ∧ w'.cell? ⟨w1.heap.size, 1, none⟩ = some (.slice aq xq.length cq) ∧ w'.cell? ⟨w1.heap.size + 1, 0, none⟩ = some (.bool nr) ∧ w'.cell? ⟨w1.heap.size + 1, 1, none⟩ = some (.slice ar xr.length cr) ∧ w'.cell? ⟨w2.heap.size, 0, none⟩ = some (.bool np) ∧ w'.cell? ⟨w2.heap.size, 1, none⟩ = some (.slice ap xp.length cp) ∧ w'.cell? ⟨w2.heap.size + 1, 0, none⟩ = some (.bool nsv) ∧ w'.cell? ⟨w2.heap.size + 1, 1, none⟩ = some (.slice asv xsv.length csv) ∧ w'.cell? ⟨w3.heap.size, 0, none⟩ = some (.bool no) ∧ w'.cell? ⟨w3.heap.size, 1, none⟩ = some (.slice ao xo.length co) ∧ w'.cell? ⟨w3.heap.size + 1, 0, none⟩ = some (.bool ntv) ∧ w'.cell? ⟨w3.heap.size + 1, 1, none⟩ = some (.slice atv xtv.length ctv) ∧ w'.cell? ⟨w4.heap.size, 0, none⟩ = some (.bool nx) ∧ w'.cell? ⟨w4.heap.size, 1, none⟩ = some (.slice ax xx.length cx)) := fun w' h => HKB.out w' (below_step b h)
  clear b
  obtain ⟨c0, c1, c2, c3, c4, c5, c6, c7, c8, c9, c10, c11, c12, c13, c14, c15, c16, c17⟩ := HKB.out w5 (Below.refl _ _)
  go_wp2_with fail
  clear c0 c1 c2 c3 c4 c5 c6 c7 c8 c9 c10 c11 c12 c13 c14 c15 c16 c17
  refine (least_z (Za.out)).mono ?_
  rintro e w6 ⟨r, rfl, m, b⟩
  obtain ⟨nl, xl, al, cl, rfl, -, -, -, -, -⟩ := id m
  obtain ⟨W6, hW⟩ : ∃ W6, w6.alloc (duo (.bool nl) (.slice al xl.length cl)) = W6 := ⟨_, rfl⟩
  have kW : Below w6.heap.size w6 W6 := by rw [← hW]; exact (Below.refl _ _).alloc (Nat.le_refl _) _
  have sz6 : W6.heap.size = w6.heap.size + 1 := by rw [← hW]; simp
  have p : Duo W6 w6.heap.size (.bool nl) (.slice al xl.length cl) := by rw [← hW]; exact Duo.new w6 _ _
  replace b := below_step b kW
  replace Za := hid (Za.out.now b)
  replace Zb := hid (Zb.out.now b)
  replace Zq := hid (Zq.out.now b)
  replace Zr := hid (Zr.out.now b)
  replace Zp := hid (Zp.out.now b)
  replace Zsv := hid (Zsv.out.now b)
  replace Zo := hid (Zo.out.now b)
  replace Ztv := hid (Ztv.out.now b)
  replace Zx := hid (Zx.out.now b)
  replace G := hid (below_step G.out b)
  have Zl := hid (m.now kW)
  replace HKB : Hid (∀ w', Below W6.heap.size W6 w' → w'.cell? ⟨w.heap.size, 0, none⟩ = some (.bool na) ∧ w'.cell? ⟨w.heap.size, 1, none⟩ = some (.slice aa xa.length ca) ∧ w'.cell? ⟨w.heap.size + 1, 0, none⟩ = some (.bool nb) ∧ w'.cell? ⟨w.heap.size + 1, 1, none⟩ = some (.slice ab xb.length cb) ∧ w'.cell? ⟨w1.heap.size, 0, none⟩ = some (.bool nq) ∧ w'.cell? ⟨w1.heap.size, 1, none⟩ = some (.slice aq xq.length cq) ∧ w'.cell? ⟨w1.heap.size + 1, 0, none⟩ = some (.bool nr) ∧ w'.cell? ⟨w1.heap.size + 1, 1, none⟩ = some (.slice ar xr.length cr) ∧ w'.cell? ⟨w2.heap.size, 0, none⟩ = some (.bool np) ∧ w'.cell? ⟨w2.heap.size, 1, none⟩ = some (.slice ap xp.length cp) ∧ w'.cell? ⟨w2.heap.size + 1, 0, none⟩ = some (.bool nsv) ∧ w'.cell? ⟨w2.heap.size + 1, 1, none⟩ = some (.slice asv xsv.length csv) ∧ w'.cell? ⟨w3.heap.size, 0, none⟩ = some (.bool no) ∧ w'.cell? ⟨w3.heap.size, 1, none⟩ = some (.slice ao xo.length co) ∧ w'.cell? ⟨w3.heap.size + 1, 0, none⟩ = some (.bool ntv) ∧ w'.cell? ⟨w3.heap.size + 1, 1, none⟩ = some (.slice atv xtv.length ctv) ∧ w'.cell? ⟨w4.heap.size, 0, none⟩ = some (.bool nx) ∧ w'.cell? ⟨w4.heap.size, 1, none⟩ = some (.slice ax xx.length cx) ∧ w'.cell? ⟨w6.heap.size, 0, none⟩ = some (.bool nl) ∧ w'.cell? ⟨w6.heap.size, 1, none⟩ = some (.slice al xl.length cl)) := fun w' h => by
    obtain ⟨q0, q1, q2, q3, q4, q5, q6, q7, q8, q9, q10, q11, q12, q13, q14, q15, q16, q17⟩ := HKB.out w' (below_step b h)
    have p' := p.below h (by omega)
    exact ⟨q0, q1, q2, q3, q4, q5, q6, q7, q8, q9, q10, q11, q12, q13, q14, q15, q16, q17, p'.c0, p'.c1⟩
  obtain ⟨c0, c1, c2, c3, c4, c5, c6, c7, c8, c9, c10, c11, c12, c13, c14, c15, c16, c17, c18, c19⟩ := HKB.out W6 (Below.refl _ _)
  rw [← hW] at c0 c1 c2 c3 c4 c5 c6 c7 c8 c9 c10 c11 c12 c13 c14 c15 c16 c17 c18 c19
  have EW := hid hW
  clear b kW p hW m
  go_wp2_with fail
  rw [EW.out]
  clear EW
  clear c0 c1 c2 c3 c4 c5 c6 c7 c8 c9 c10 c11 c12 c13 c14 c15 c16 c17 c18 c19
  obtain ⟨c0, c1, c2, c3, c4, c5, c6, c7, c8, c9, c10, c11, c12, c13, c14, c15, c16, c17, c18, c19⟩ := HKB.out W6 (Below.refl _ _)
  have HC0 := hid (fun (w' : World) (h : Below W6.heap.size W6 w') => mulAdd_z (Zq.out.now h).zi (Zb.out.now h) (Zr.out.now h).zi (by omega) (by omega))
  go_region_held3 (fun w' => w'.cell? ⟨w.heap.size, 0, none⟩ = some (.bool na) ∧ w'.cell? ⟨w.heap.size, 1, none⟩ = some (.slice aa xa.length ca) ∧ w'.cell? ⟨w.heap.size + 1, 0, none⟩ = some (.bool nb) ∧ w'.cell? ⟨w.heap.size + 1, 1, none⟩ = some (.slice ab xb.length cb) ∧ w'.cell? ⟨w1.heap.size, 0, none⟩ = some (.bool nq) ∧ w'.cell? ⟨w1.heap.size, 1, none⟩ = some (.slice aq xq.length cq) ∧ w'.cell? ⟨w1.heap.size + 1, 0, none⟩ = some (.bool nr) ∧ w'.cell? ⟨w1.heap.size + 1, 1, none⟩ = some (.slice ar xr.length cr) ∧ w'.cell? ⟨w2.heap.size, 0, none⟩ = some (.bool np) ∧ w'.cell? ⟨w2.heap.size, 1, none⟩ = some (.slice ap xp.length cp) ∧ w'.cell? ⟨w2.heap.size + 1, 0, none⟩ = some (.bool nsv) ∧ w'.cell? ⟨w2.heap.size + 1, 1, none⟩ = some (.slice asv xsv.length csv) ∧ w'.cell? ⟨w3.heap.size, 0, none⟩ = some (.bool no) ∧ w'.cell? ⟨w3.heap.size, 1, none⟩ = some (.slice ao xo.length co) ∧ w'.cell? ⟨w3.heap.size + 1, 0, none⟩ = some (.bool ntv) ∧ w'.cell? ⟨w3.heap.size + 1, 1, none⟩ = some (.slice atv xtv.length ctv) ∧ w'.cell? ⟨w4.heap.size, 0, none⟩ = some (.bool nx) ∧ w'.cell? ⟨w4.heap.size, 1, none⟩ = some (.slice ax xx.length cx) ∧ w'.cell? ⟨w6.heap.size, 0, none⟩ = some (.bool nl) ∧ w'.cell? ⟨w6.heap.size, 1, none⟩ = some (.slice al xl.length cl))
    (first
      | ((try dsimp only); refine ⟨?_, ?_, ?_, ?_, ?_, ?_, ?_, ?_, ?_, ?_, ?_, ?_, ?_, ?_, ?_, ?_, ?_, ?_, ?_, ?_⟩ <;> with_reducible assumption)
      | (refine HKB.out _ ?_; repeat (first | with_reducible exact HP12.out | with_reducible exact HP11.out | with_reducible exact HP10.out | with_reducible exact HP9.out | with_reducible exact HP8.out | with_reducible exact HP7.out | with_reducible exact Below.refl _ _ | with_reducible apply Below.drew | with_reducible apply below_more)))
    (first
      | (go_at_call 10; refine (HC5.out _ ?_).mono ?_; (repeat (first | exact Below.refl _ _ | apply Below.drew | apply below_more)); rintro e12 w12 ⟨rfl, b12⟩; have HB12 : Hid (Below w11.heap.size w11 w12) := below_step (w0 := w11) (by repeat (first | exact Below.refl _ _ | apply Below.drew | apply below_more)) b12; have HP12 := hid (below_step HP11.out HB12.out); obtain ⟨c12_0, c12_1, c12_2, c12_3, c12_4, c12_5, c12_6, c12_7, c12_8, c12_9, c12_10, c12_11, c12_12, c12_13, c12_14, c12_15, c12_16, c12_17, c12_18, c12_19⟩ := HKB.out w12 HP12.out)
      | (go_at_call 14; refine (HC4.out _ ?_).mono ?_; (repeat (first | exact Below.refl _ _ | apply Below.drew | apply below_more)); rintro e11 w11 ⟨r11, rfl, m11, b11⟩; have HB11 : Hid (Below w10.heap.size w10 w11) := below_step (w0 := w10) (by repeat (first | exact Below.refl _ _ | apply Below.drew | apply below_more)) b11; have HP11 := hid (below_step HP10.out HB11.out); have M11 := hid m11; obtain ⟨n11, t11, a11, q11, rfl, -, -, -, -, -⟩ := m11; have Y11_L := hid (Y10_L.out.now HB11.out); have HC5 := hid (fun (w' : World) (h : Below w11.heap.size w11 w') => alike_yes (M11.out.now h) (Y11_L.out.now h) D.out.e1); obtain ⟨c11_0, c11_1, c11_2, c11_3, c11_4, c11_5, c11_6, c11_7, c11_8, c11_9, c11_10, c11_11, c11_12, c11_13, c11_14, c11_15, c11_16, c11_17, c11_18, c11_19⟩ := HKB.out w11 HP11.out)
      | (go_at_call 10; refine (HC3.out _ ?_).mono ?_; (repeat (first | exact Below.refl _ _ | apply Below.drew | apply below_more)); rintro e10 w10 ⟨rfl, b10⟩; have HB10 : Hid (Below w9.heap.size w9 w10) := below_step (w0 := w9) (by repeat (first | exact Below.refl _ _ | apply Below.drew | apply below_more)) b10; have HP10 := hid (below_step HP9.out HB10.out); have Y10_B := hid (Y9_B.out.now HB10.out); have Y10_O := hid (Y9_O.out.now HB10.out); have Y10_TV := hid (Y9_TV.out.now HB10.out); have Y10_L := hid (Y9_L.out.now HB10.out); have HC4 := hid (fun (w' : World) (h : Below w10.heap.size w10 w') => mulAdd_z (Y10_O.out.now h).zi (Y10_B.out.now h) (Y10_TV.out.now h).zi (by omega) (by omega)); obtain ⟨c10_0, c10_1, c10_2, c10_3, c10_4, c10_5, c10_6, c10_7, c10_8, c10_9, c10_10, c10_11, c10_12, c10_13, c10_14, c10_15, c10_16, c10_17, c10_18, c10_19⟩ := HKB.out w10 HP10.out)
      | (go_at_call 14; refine (HC2.out _ ?_).mono ?_; (repeat (first | exact Below.refl _ _ | apply Below.drew | apply below_more)); rintro e9 w9 ⟨r9, rfl, m9, b9⟩; have HB9 : Hid (Below w8.heap.size w8 w9) := below_step (w0 := w8) (by repeat (first | exact Below.refl _ _ | apply Below.drew | apply below_more)) b9; have HP9 := hid (below_step HP8.out HB9.out); have M9 := hid m9; obtain ⟨n9, t9, a9, q9, rfl, -, -, -, -, -⟩ := m9; have Y9_B := hid (Y8_B.out.now HB9.out); have Y9_O := hid (Y8_O.out.now HB9.out); have Y9_TV := hid (Y8_TV.out.now HB9.out); have Y9_L := hid (Y8_L.out.now HB9.out); have HC3 := hid (fun (w' : World) (h : Below w9.heap.size w9 w') => alike_yes (M9.out.now h) (Y9_L.out.now h) D.out.f1); obtain ⟨c9_0, c9_1, c9_2, c9_3, c9_4, c9_5, c9_6, c9_7, c9_8, c9_9, c9_10, c9_11, c9_12, c9_13, c9_14, c9_15, c9_16, c9_17, c9_18, c9_19⟩ := HKB.out w9 HP9.out)
      | (go_at_call 10; refine (HC1.out _ ?_).mono ?_; (repeat (first | exact Below.refl _ _ | apply Below.drew | apply below_more)); rintro e8 w8 ⟨rfl, b8⟩; have HB8 : Hid (Below w7.heap.size w7 w8) := below_step (w0 := w7) (by repeat (first | exact Below.refl _ _ | apply Below.drew | apply below_more)) b8; have HP8 := hid (below_step HP7.out HB8.out); have Y8_B := hid (Y7_B.out.now HB8.out); have Y8_P := hid (Y7_P.out.now HB8.out); have Y8_SV := hid (Y7_SV.out.now HB8.out); have Y8_O := hid (Y7_O.out.now HB8.out); have Y8_TV := hid (Y7_TV.out.now HB8.out); have Y8_L := hid (Y7_L.out.now HB8.out); have HC2 := hid (fun (w' : World) (h : Below w8.heap.size w8 w') => mulAdd_z (Y8_P.out.now h).zi (Y8_B.out.now h) (Y8_SV.out.now h).zi (by omega) (by omega)); obtain ⟨c8_0, c8_1, c8_2, c8_3, c8_4, c8_5, c8_6, c8_7, c8_8, c8_9, c8_10, c8_11, c8_12, c8_13, c8_14, c8_15, c8_16, c8_17, c8_18, c8_19⟩ := HKB.out w8 HP8.out)
      | (go_at_call 14; refine (HC0.out _ ?_).mono ?_; (repeat (first | exact Below.refl _ _ | apply Below.drew | apply below_more)); rintro e7 w7 ⟨r7, rfl, m7, b7⟩; have HB7 : Hid (Below W6.heap.size W6 w7) := below_step (w0 := W6) (by repeat (first | exact Below.refl _ _ | apply Below.drew | apply below_more)) b7; have HP7 := hid (HB7.out); have M7 := hid m7; obtain ⟨n7, t7, a7, q7, rfl, -, -, -, -, -⟩ := m7; have Y7_B := hid (Zb.out.now HB7.out); have Y7_P := hid (Zp.out.now HB7.out); have Y7_SV := hid (Zsv.out.now HB7.out); have Y7_O := hid (Zo.out.now HB7.out); have Y7_TV := hid (Ztv.out.now HB7.out); have Y7_L := hid (Zl.out.now HB7.out); have HC1 := hid (fun (w' : World) (h : Below w7.heap.size w7 w') => alike_yes (M7.out.now h) (Y7_L.out.now h) D.out.t1); obtain ⟨c7_0, c7_1, c7_2, c7_3, c7_4, c7_5, c7_6, c7_7, c7_8, c7_9, c7_10, c7_11, c7_12, c7_13, c7_14, c7_15, c7_16, c7_17, c7_18, c7_19⟩ := HKB.out w7 HP7.out))
  replace Za := hid (Za.out.now HP12.out)
  replace Zb := hid (Zb.out.now HP12.out)
  replace Zq := hid (Zq.out.now HP12.out)
  replace Zr := hid (Zr.out.now HP12.out)
  replace Zp := hid (Zp.out.now HP12.out)
  replace Zsv := hid (Zsv.out.now HP12.out)
  replace Zo := hid (Zo.out.now HP12.out)
  replace Ztv := hid (Ztv.out.now HP12.out)
  replace Zx := hid (Zx.out.now HP12.out)
  replace Zl := hid (Zl.out.now HP12.out)
  replace G := hid (below_step G.out HP12.out)
  replace HKB : Hid (∀ w', Below w12.heap.size w12 w' → w'.cell? ⟨w.heap.size, 0, none⟩ = some (.bool na) ∧ w'.cell? ⟨w.heap.size, 1, none⟩ = some (.slice aa xa.length ca) ∧ w'.cell? ⟨w.heap.size + 1, 0, none⟩ = some (.bool nb) ∧ w'.cell? ⟨w.heap.size + 1, 1, none⟩ = some (.slice ab xb.length cb) ∧ w'.cell? ⟨w1.heap.size, 0, none⟩ = some (.bool nq) ∧ w'.cell? ⟨w1.heap.size, 1, none⟩ = some (.slice aq xq.length cq) ∧ w'.cell? ⟨w1.heap.size + 1, 0, none⟩ = some (.bool nr) ∧ w'.cell? ⟨w1.heap.size + 1, 1, none⟩ = some (.slice ar xr.length cr) ∧ w'.cell? ⟨w2.heap.size, 0, none⟩ = some (.bool np) ∧ w'.cell? ⟨w2.heap.size, 1, none⟩ = some (.slice ap xp.length cp) ∧ w'.cell? ⟨w2.heap.size + 1, 0, none⟩ = some (.bool nsv) ∧ w'.cell? ⟨w2.heap.size + 1, 1, none⟩ = some (.slice asv xsv.length csv) ∧ w'.cell? ⟨w3.heap.size, 0, none⟩ = some (.bool no) ∧ w'.cell? ⟨w3.heap.size, 1, none⟩ = some (.slice ao xo.length co) ∧ w'.cell? ⟨w3.heap.size + 1, 0, none⟩ = some (.bool ntv) ∧ w'.cell? ⟨w3.heap.size + 1, 1, none⟩ = some (.slice atv xtv.length ctv) ∧ w'.cell? ⟨w4.heap.size, 0, none⟩ = some (.bool nx) ∧ w'.cell? ⟨w4.heap.size, 1, none⟩ = some (.slice ax xx.length cx) ∧ w'.cell? ⟨w6.heap.size, 0, none⟩ = some (.bool nl) ∧ w'.cell? ⟨w6.heap.size, 1, none⟩ = some (.slice al xl.length cl)) := fun w' h => HKB.out w' (below_step HP12.out h)
  clear HC0 HB7 HP7 c7_0 c7_1 c7_2 c7_3 c7_4 c7_5 c7_6 c7_7 c7_8 c7_9 c7_10 c7_11 c7_12 c7_13 c7_14 c7_15 c7_16 c7_17 c7_18 c7_19 HC1 HB8 HP8 c8_0 c8_1 c8_2 c8_3 c8_4 c8_5 c8_6 c8_7 c8_8 c8_9 c8_10 c8_11 c8_12 c8_13 c8_14 c8_15 c8_16 c8_17 c8_18 c8_19 HC2 HB9 HP9 c9_0 c9_1 c9_2 c9_3 c9_4 c9_5 c9_6 c9_7 c9_8 c9_9 c9_10 c9_11 c9_12 c9_13 c9_14 c9_15 c9_16 c9_17 c9_18 c9_19 HC3 HB10 HP10 c10_0 c10_1 c10_2 c10_3 c10_4 c10_5 c10_6 c10_7 c10_8 c10_9 c10_10 c10_11 c10_12 c10_13 c10_14 c10_15 c10_16 c10_17 c10_18 c10_19 HC4 HB11 HP11 c11_0 c11_1 c11_2 c11_3 c11_4 c11_5 c11_6 c11_7 c11_8 c11_9 c11_10 c11_11 c11_12 c11_13 c11_14 c11_15 c11_16 c11_17 c11_18 c11_19 HC5 HB12 HP12 c12_0 c12_1 c12_2 c12_3 c12_4 c12_5 c12_6 c12_7 c12_8 c12_9 c12_10 c12_11 c12_12 c12_13 c12_14 c12_15 c12_16 c12_17 c12_18 c12_19
  obtain ⟨c0, c1, c2, c3, c4, c5, c6, c7, c8, c9, c10, c11, c12, c13, c14, c15, c16, c17, c18, c19⟩ := HKB.out w12 (Below.refl _ _)
  clear Zl
  go_wp2_with fail
  have HC0 := hid (fun (w' : World) (h : Below w12.heap.size w12 w') => E5.out _ _ _ _ _ (Zr.out.now h).zi (Zb.out.now h))
  go_region_held3 (fun w' => w'.cell? ⟨w.heap.size, 0, none⟩ = some (.bool na) ∧ w'.cell? ⟨w.heap.size, 1, none⟩ = some (.slice aa xa.length ca) ∧ w'.cell? ⟨w.heap.size + 1, 0, none⟩ = some (.bool nb) ∧ w'.cell? ⟨w.heap.size + 1, 1, none⟩ = some (.slice ab xb.length cb) ∧ w'.cell? ⟨w1.heap.size, 0, none⟩ = some (.bool nq) ∧ w'.cell? ⟨w1.heap.size, 1, none⟩ = some (.slice aq xq.length cq) ∧ w'.cell? ⟨w1.heap.size + 1, 0, none⟩ = some (.bool nr) ∧ w'.cell? ⟨w1.heap.size + 1, 1, none⟩ = some (.slice ar xr.length cr) ∧ w'.cell? ⟨w2.heap.size, 0, none⟩ = some (.bool np) ∧ w'.cell? ⟨w2.heap.size, 1, none⟩ = some (.slice ap xp.length cp) ∧ w'.cell? ⟨w2.heap.size + 1, 0, none⟩ = some (.bool nsv) ∧ w'.cell? ⟨w2.heap.size + 1, 1, none⟩ = some (.slice asv xsv.length csv) ∧ w'.cell? ⟨w3.heap.size, 0, none⟩ = some (.bool no) ∧ w'.cell? ⟨w3.heap.size, 1, none⟩ = some (.slice ao xo.length co) ∧ w'.cell? ⟨w3.heap.size + 1, 0, none⟩ = some (.bool ntv) ∧ w'.cell? ⟨w3.heap.size + 1, 1, none⟩ = some (.slice atv xtv.length ctv) ∧ w'.cell? ⟨w4.heap.size, 0, none⟩ = some (.bool nx) ∧ w'.cell? ⟨w4.heap.size, 1, none⟩ = some (.slice ax xx.length cx) ∧ w'.cell? ⟨w6.heap.size, 0, none⟩ = some (.bool nl) ∧ w'.cell? ⟨w6.heap.size, 1, none⟩ = some (.slice al xl.length cl))
    (first
      | ((try dsimp only); refine ⟨?_, ?_, ?_, ?_, ?_, ?_, ?_, ?_, ?_, ?_, ?_, ?_, ?_, ?_, ?_, ?_, ?_, ?_, ?_, ?_⟩ <;> with_reducible assumption)
      | (refine HKB.out _ ?_; repeat (first | with_reducible exact HP19.out | with_reducible exact HP18.out | with_reducible exact HP17.out | with_reducible exact HP16.out | with_reducible exact HP15.out | with_reducible exact HP14.out | with_reducible exact HP13.out | with_reducible exact Below.refl _ _ | with_reducible apply Below.drew | with_reducible apply below_more)))
    (first
      | (go_at_call 23; refine (HC6.out _ ?_).mono ?_; (repeat (first | exact Below.refl _ _ | apply Below.drew | apply below_more)); rintro e19 w19 ⟨rfl, b19⟩; have HB19 : Hid (Below w18.heap.size w18 w19) := below_step (w0 := w18) (by repeat (first | exact Below.refl _ _ | apply Below.drew | apply below_more)) b19; have HP19 := hid (below_step HP18.out HB19.out); obtain ⟨c19_0, c19_1, c19_2, c19_3, c19_4, c19_5, c19_6, c19_7, c19_8, c19_9, c19_10, c19_11, c19_12, c19_13, c19_14, c19_15, c19_16, c19_17, c19_18, c19_19⟩ := HKB.out w19 HP19.out)
      | (go_at_call 21; refine (HC5.out _ ?_).mono ?_; (repeat (first | exact Below.refl _ _ | apply Below.drew | apply below_more)); rintro e18 w18 ⟨rfl, b18⟩; have HB18 : Hid (Below w17.heap.size w17 w18) := below_step (w0 := w17) (by repeat (first | exact Below.refl _ _ | apply Below.drew | apply below_more)) b18; have HP18 := hid (below_step HP17.out HB18.out); have Y18_B := hid (Y17_B.out.now HB18.out); have Y18_TV := hid (Y17_TV.out.now HB18.out); have HC6 := hid (fun (w' : World) (h : Below w18.heap.size w18 w') => within_yes (Y18_TV.out.now h).zi (Y18_B.out.now h) D.out.e2); obtain ⟨c18_0, c18_1, c18_2, c18_3, c18_4, c18_5, c18_6, c18_7, c18_8, c18_9, c18_10, c18_11, c18_12, c18_13, c18_14, c18_15, c18_16, c18_17, c18_18, c18_19⟩ := HKB.out w18 HP18.out)
      | (go_at_call 21; refine (HC4.out _ ?_).mono ?_; (repeat (first | exact Below.refl _ _ | apply Below.drew | apply below_more)); rintro e17 w17 ⟨rfl, b17⟩; have HB17 : Hid (Below w16.heap.size w16 w17) := below_step (w0 := w16) (by repeat (first | exact Below.refl _ _ | apply Below.drew | apply below_more)) b17; have HP17 := hid (below_step HP16.out HB17.out); have Y17_B := hid (Y16_B.out.now HB17.out); have Y17_TV := hid (Y16_TV.out.now HB17.out); have HC5 := hid (fun (w' : World) (h : Below w17.heap.size w17 w') => E3.out _ _ _ (Y17_B.out.now h)); obtain ⟨c17_0, c17_1, c17_2, c17_3, c17_4, c17_5, c17_6, c17_7, c17_8, c17_9, c17_10, c17_11, c17_12, c17_13, c17_14, c17_15, c17_16, c17_17, c17_18, c17_19⟩ := HKB.out w17 HP17.out)
      | (go_at_call 22; refine (HC3.out _ ?_).mono ?_; (repeat (first | exact Below.refl _ _ | apply Below.drew | apply below_more)); rintro e16 w16 ⟨rfl, b16⟩; have HB16 : Hid (Below w15.heap.size w15 w16) := below_step (w0 := w15) (by repeat (first | exact Below.refl _ _ | apply Below.drew | apply below_more)) b16; have HP16 := hid (below_step HP15.out HB16.out); have Y16_B := hid (Y15_B.out.now HB16.out); have Y16_SV := hid (Y15_SV.out.now HB16.out); have Y16_TV := hid (Y15_TV.out.now HB16.out); have HC4 := hid (fun (w' : World) (h : Below w16.heap.size w16 w') => E4.out _ _ _ (Y16_SV.out.now h).zi); obtain ⟨c16_0, c16_1, c16_2, c16_3, c16_4, c16_5, c16_6, c16_7, c16_8, c16_9, c16_10, c16_11, c16_12, c16_13, c16_14, c16_15, c16_16, c16_17, c16_18, c16_19⟩ := HKB.out w16 HP16.out)
      | (go_at_call 21; refine (HC2.out _ ?_).mono ?_; (repeat (first | exact Below.refl _ _ | apply Below.drew | apply below_more)); rintro e15 w15 ⟨rfl, b15⟩; have HB15 : Hid (Below w14.heap.size w14 w15) := below_step (w0 := w14) (by repeat (first | exact Below.refl _ _ | apply Below.drew | apply below_more)) b15; have HP15 := hid (below_step HP14.out HB15.out); have Y15_B := hid (Y14_B.out.now HB15.out); have Y15_SV := hid (Y14_SV.out.now HB15.out); have Y15_TV := hid (Y14_TV.out.now HB15.out); have HC3 := hid (fun (w' : World) (h : Below w15.heap.size w15 w') => E6.out _ _ _ _ _ (Y15_SV.out.now h).zi (Y15_B.out.now h)); obtain ⟨c15_0, c15_1, c15_2, c15_3, c15_4, c15_5, c15_6, c15_7, c15_8, c15_9, c15_10, c15_11, c15_12, c15_13, c15_14, c15_15, c15_16, c15_17, c15_18, c15_19⟩ := HKB.out w15 HP15.out)
      | (go_at_call 21; refine (HC1.out _ ?_).mono ?_; (repeat (first | exact Below.refl _ _ | apply Below.drew | apply below_more)); rintro e14 w14 ⟨rfl, b14⟩; have HB14 : Hid (Below w13.heap.size w13 w14) := below_step (w0 := w13) (by repeat (first | exact Below.refl _ _ | apply Below.drew | apply below_more)) b14; have HP14 := hid (below_step HP13.out HB14.out); have Y14_A := hid (Y13_A.out.now HB14.out); have Y14_B := hid (Y13_B.out.now HB14.out); have Y14_SV := hid (Y13_SV.out.now HB14.out); have Y14_TV := hid (Y13_TV.out.now HB14.out); have HC2 := hid (fun (w' : World) (h : Below w14.heap.size w14 w') => E2.out _ _ _ (Y14_A.out.now h)); obtain ⟨c14_0, c14_1, c14_2, c14_3, c14_4, c14_5, c14_6, c14_7, c14_8, c14_9, c14_10, c14_11, c14_12, c14_13, c14_14, c14_15, c14_16, c14_17, c14_18, c14_19⟩ := HKB.out w14 HP14.out)
      | (go_at_call 22; refine (HC0.out _ ?_).mono ?_; (repeat (first | exact Below.refl _ _ | apply Below.drew | apply below_more)); rintro e13 w13 ⟨rfl, b13⟩; have HB13 : Hid (Below w12.heap.size w12 w13) := below_step (w0 := w12) (by repeat (first | exact Below.refl _ _ | apply Below.drew | apply below_more)) b13; have HP13 := hid (HB13.out); have Y13_A := hid (Za.out.now HB13.out); have Y13_B := hid (Zb.out.now HB13.out); have Y13_R := hid (Zr.out.now HB13.out); have Y13_SV := hid (Zsv.out.now HB13.out); have Y13_TV := hid (Ztv.out.now HB13.out); have HC1 := hid (fun (w' : World) (h : Below w13.heap.size w13 w') => E1.out _ _ _ (Y13_R.out.now h).zi); obtain ⟨c13_0, c13_1, c13_2, c13_3, c13_4, c13_5, c13_6, c13_7, c13_8, c13_9, c13_10, c13_11, c13_12, c13_13, c13_14, c13_15, c13_16, c13_17, c13_18, c13_19⟩ := HKB.out w13 HP13.out))
  replace Za := hid (Za.out.now HP19.out)
  replace Zb := hid (Zb.out.now HP19.out)
  replace Zq := hid (Zq.out.now HP19.out)
  replace Zr := hid (Zr.out.now HP19.out)
  replace Zp := hid (Zp.out.now HP19.out)
  replace Zsv := hid (Zsv.out.now HP19.out)
  replace Zo := hid (Zo.out.now HP19.out)
  replace Ztv := hid (Ztv.out.now HP19.out)
  replace Zx := hid (Zx.out.now HP19.out)
  replace G := hid (below_step G.out HP19.out)
  replace HKB : Hid (∀ w', Below w19.heap.size w19 w' → w'.cell? ⟨w.heap.size, 0, none⟩ = some (.bool na) ∧ w'.cell? ⟨w.heap.size, 1, none⟩ = some (.slice aa xa.length ca) ∧ w'.cell? ⟨w.heap.size + 1, 0, none⟩ = some (.bool nb) ∧ w'.cell? ⟨w.heap.size + 1, 1, none⟩ = some (.slice ab xb.length cb) ∧ w'.cell? ⟨w1.heap.size, 0, none⟩ = some (.bool nq) ∧ w'.cell? ⟨w1.heap.size, 1, none⟩ = some (.slice aq xq.length cq) ∧ w'.cell? ⟨w1.heap.size + 1, 0, none⟩ = some (.bool nr) ∧ w'.cell? ⟨w1.heap.size + 1, 1, none⟩ = some (.slice ar xr.length cr) ∧ w'.cell? ⟨w2.heap.size, 0, none⟩ = some (.bool np) ∧ w'.cell? ⟨w2.heap.size, 1, none⟩ = some (.slice ap xp.length cp) ∧ w'.cell? ⟨w2.heap.size + 1, 0, none⟩ = some (.bool nsv) ∧ w'.cell? ⟨w2.heap.size + 1, 1, none⟩ = some (.slice asv xsv.length csv) ∧ w'.cell? ⟨w3.heap.size, 0, none⟩ = some (.bool no) ∧ w'.cell? ⟨w3.heap.size, 1, none⟩ = some (.slice ao xo.length co) ∧ w'.cell? ⟨w3.heap.size + 1, 0, none⟩ = some (.bool ntv) ∧ w'.cell? ⟨w3.heap.size + 1, 1, none⟩ = some (.slice atv xtv.length ctv) ∧ w'.cell? ⟨w4.heap.size, 0, none⟩ = some (.bool nx) ∧ w'.cell? ⟨w4.heap.size, 1, none⟩ = some (.slice ax xx.length cx) ∧ w'.cell? ⟨w6.heap.size, 0, none⟩ = some (.bool nl) ∧ w'.cell? ⟨w6.heap.size, 1, none⟩ = some (.slice al xl.length cl)) := fun w' h => HKB.out w' (below_step HP19.out h)
  clear HC0 HB13 HP13 c13_0 c13_1 c13_2 c13_3 c13_4 c13_5 c13_6 c13_7 c13_8 c13_9 c13_10 c13_11 c13_12 c13_13 c13_14 c13_15 c13_16 c13_17 c13_18 c13_19 HC1 HB14 HP14 c14_0 c14_1 c14_2 c14_3 c14_4 c14_5 c14_6 c14_7 c14_8 c14_9 c14_10 c14_11 c14_12 c14_13 c14_14 c14_15 c14_16 c14_17 c14_18 c14_19 HC2 HB15 HP15 c15_0 c15_1 c15_2 c15_3 c15_4 c15_5 c15_6 c15_7 c15_8 c15_9 c15_10 c15_11 c15_12 c15_13 c15_14 c15_15 c15_16 c15_17 c15_18 c15_19 HC3 HB16 HP16 c16_0 c16_1 c16_2 c16_3 c16_4 c16_5 c16_6 c16_7 c16_8 c16_9 c16_10 c16_11 c16_12 c16_13 c16_14 c16_15 c16_16 c16_17 c16_18 c16_19 HC4 HB17 HP17 c17_0 c17_1 c17_2 c17_3 c17_4 c17_5 c17_6 c17_7 c17_8 c17_9 c17_10 c17_11 c17_12 c17_13 c17_14 c17_15 c17_16 c17_17 c17_18 c17_19 HC5 HB18 HP18 c18_0 c18_1 c18_2 c18_3 c18_4 c18_5 c18_6 c18_7 c18_8 c18_9 c18_10 c18_11 c18_12 c18_13 c18_14 c18_15 c18_16 c18_17 c18_18 c18_19 HC6 HB19 HP19 c19_0 c19_1 c19_2 c19_3 c19_4 c19_5 c19_6 c19_7 c19_8 c19_9 c19_10 c19_11 c19_12 c19_13 c19_14 c19_15 c19_16 c19_17 c19_18 c19_19
  obtain ⟨c0, c1, c2, c3, c4, c5, c6, c7, c8, c9, c10, c11, c12, c13, c14, c15, c16, c17, c18, c19⟩ := HKB.out w19 (Below.refl _ _)
  go_wp2_with fail
  clear c0 c1 c2 c3 c4 c5 c6 c7 c8 c9 c10 c11 c12 c13 c14 c15 c16 c17 c18 c19
  refine (E1.out _ _ _ (Zr.out).zi).mono ?_
  rintro e w20 ⟨rfl, b⟩
  replace Za := hid (Za.out.now b)
  replace Zb := hid (Zb.out.now b)
  replace Zq := hid (Zq.out.now b)
  replace Zr := hid (Zr.out.now b)
  replace Zp := hid (Zp.out.now b)
  replace Zsv := hid (Zsv.out.now b)
  replace Zo := hid (Zo.out.now b)
  replace Ztv := hid (Ztv.out.now b)
  replace Zx := hid (Zx.out.now b)
  replace G := hid (below_step G.out b)
  replace HKB : Hid (∀ w', Below w20.heap.size w20 w' → w'.cell? ⟨w.heap.size, 0, none⟩ = some (.bool na) ∧ w'.cell? ⟨w.heap.size, 1, none⟩ = some (.slice aa xa.length ca) ∧ w'.cell? ⟨w.heap.size + 1, 0, none⟩ = some (.bool nb) ∧ w'.cell? ⟨w.heap.size + 1, 1, none⟩ = some (.slice ab xb.length cb) ∧ w'.cell? ⟨w1.heap.size, 0, none⟩ = some (.bool nq) ∧ w'.cell? ⟨w1.heap.size, 1, none⟩ = some (.slice aq xq.length cq) ∧ w'.cell? ⟨w1.heap.size + 1, 0, none⟩ = some (.bool nr) ∧ w'.cell? ⟨w1.heap.size + 1, 1, none⟩ = some (.slice ar xr.length cr) ∧ w'.cell? ⟨w2.heap.size, 0, none⟩ = some (.bool np) ∧ w'.cell? ⟨w2.heap.size, 1, none⟩ = some (.slice ap xp.length cp) ∧ w'.cell? ⟨w2.heap.size + 1, 0, none⟩ = some (.bool nsv) ∧ w'.cell? ⟨w2.heap.size + 1, 1, none⟩ = some (.slice asv xsv.length csv) ∧ w'.cell? ⟨w3.heap.size, 0, none⟩ = some (.bool no) ∧ w'.cell? ⟨w3.heap.size, 1, none⟩ = some (.slice ao xo.length co) ∧ w'.cell? ⟨w3.heap.size + 1, 0, none⟩ = some (.bool ntv) ∧ w'.cell? ⟨w3.heap.size + 1, 1, none⟩ = some (.slice atv xtv.length ctv) ∧ w'.cell? ⟨w4.heap.size, 0, none⟩ = some (.bool nx) ∧ w'.cell? ⟨w4.heap.size, 1, none⟩ = some (.slice ax xx.length cx) ∧ w'.cell? ⟨w6.heap.size, 0, none⟩ = some (.bool nl) ∧ w'.cell? ⟨w6.heap.size, 1, none⟩ = some (.slice al xl.length cl)) := fun w' h => HKB.out w' (below_step b h)
  clear b
  obtain ⟨c0, c1, c2, c3, c4, c5, c6, c7, c8, c9, c10, c11, c12, c13, c14, c15, c16, c17, c18, c19⟩ := HKB.out w20 (Below.refl _ _)
  go_wp2_with fail
  clear c0 c1 c2 c3 c4 c5 c6 c7 c8 c9 c10 c11 c12 c13 c14 c15 c16 c17 c18 c19
  refine (alike_yes (Zx.out) (Zq.out) rfl).mono ?_
  rintro e w21 ⟨rfl, b⟩
  replace Za := hid (Za.out.now b)
  replace Zb := hid (Zb.out.now b)
  replace Zq := hid (Zq.out.now b)
  replace Zr := hid (Zr.out.now b)
  replace Zp := hid (Zp.out.now b)
  replace Zsv := hid (Zsv.out.now b)
  replace Zo := hid (Zo.out.now b)
  replace Ztv := hid (Ztv.out.now b)
  replace Zx := hid (Zx.out.now b)
  replace G := hid (below_step G.out b)
  replace HKB : Hid (∀ w', Below w21.heap.size w21 w' → w'.cell? ⟨w.heap.size, 0, none⟩ = some (.bool na) ∧ w'.cell? ⟨w.heap.size, 1, none⟩ = some (.slice aa xa.length ca) ∧ w'.cell? ⟨w.heap.size + 1, 0, none⟩ = some (.bool nb) ∧ w'.cell? ⟨w.heap.size + 1, 1, none⟩ = some (.slice ab xb.length cb) ∧ w'.cell? ⟨w1.heap.size, 0, none⟩ = some (.bool nq) ∧ w'.cell? ⟨w1.heap.size, 1, none⟩ = some (.slice aq xq.length cq) ∧ w'.cell? ⟨w1.heap.size + 1, 0, none⟩ = some (.bool nr) ∧ w'.cell? ⟨w1.heap.size + 1, 1, none⟩ = some (.slice ar xr.length cr) ∧ w'.cell? ⟨w2.heap.size, 0, none⟩ = some (.bool np) ∧ w'.cell? ⟨w2.heap.size, 1, none⟩ = some (.slice ap xp.length cp) ∧ w'.cell? ⟨w2.heap.size + 1, 0, none⟩ = some (.bool nsv) ∧ w'.cell? ⟨w2.heap.size + 1, 1, none⟩ = some (.slice asv xsv.length csv) ∧ w'.cell? ⟨w3.heap.size, 0, none⟩ = some (.bool no) ∧ w'.cell? ⟨w3.heap.size, 1, none⟩ = some (.slice ao xo.length co) ∧ w'.cell? ⟨w3.heap.size + 1, 0, none⟩ = some (.bool ntv) ∧ w'.cell? ⟨w3.heap.size + 1, 1, none⟩ = some (.slice atv xtv.length ctv) ∧ w'.cell? ⟨w4.heap.size, 0, none⟩ = some (.bool nx) ∧ w'.cell? ⟨w4.heap.size, 1, none⟩ = some (.slice ax xx.length cx) ∧ w'.cell? ⟨w6.heap.size, 0, none⟩ = some (.bool nl) ∧ w'.cell? ⟨w6.heap.size, 1, none⟩ = some (.slice al xl.length cl)) := fun w' h => HKB.out w' (below_step b h)
  clear b
  obtain ⟨c0, c1, c2, c3, c4, c5, c6, c7, c8, c9, c10, c11, c12, c13, c14, c15, c16, c17, c18, c19⟩ := HKB.out w21 (Below.refl _ _)
  go_wp2_with fail
  clear c0 c1 c2 c3 c4 c5 c6 c7 c8 c9 c10 c11 c12 c13 c14 c15 c16 c17 c18 c19
  refine (alike_yes (Zp.out) (Zq.out) (D.out.n2 HR.out).1).mono ?_
  rintro e w22 ⟨rfl, b⟩
  replace Za := hid (Za.out.now b)
  replace Zb := hid (Zb.out.now b)
  replace Zq := hid (Zq.out.now b)
  replace Zr := hid (Zr.out.now b)
  replace Zp := hid (Zp.out.now b)
  replace Zsv := hid (Zsv.out.now b)
  replace Zo := hid (Zo.out.now b)
  replace Ztv := hid (Ztv.out.now b)
  replace Zx := hid (Zx.out.now b)
  replace G := hid (below_step G.out b)
  replace HKB : Hid (∀ w', Below w22.heap.size w22 w' → w'.cell? ⟨w.heap.size, 0, none⟩ = some (.bool na) ∧ w'.cell? ⟨w.heap.size, 1, none⟩ = some (.slice aa xa.length ca) ∧ w'.cell? ⟨w.heap.size + 1, 0, none⟩ = some (.bool nb) ∧ w'.cell? ⟨w.heap.size + 1, 1, none⟩ = some (.slice ab xb.length cb) ∧ w'.cell? ⟨w1.heap.size, 0, none⟩ = some (.bool nq) ∧ w'.cell? ⟨w1.heap.size, 1, none⟩ = some (.slice aq xq.length cq) ∧ w'.cell? ⟨w1.heap.size + 1, 0, none⟩ = some (.bool nr) ∧ w'.cell? ⟨w1.heap.size + 1, 1, none⟩ = some (.slice ar xr.length cr) ∧ w'.cell? ⟨w2.heap.size, 0, none⟩ = some (.bool np) ∧ w'.cell? ⟨w2.heap.size, 1, none⟩ = some (.slice ap xp.length cp) ∧ w'.cell? ⟨w2.heap.size + 1, 0, none⟩ = some (.bool nsv) ∧ w'.cell? ⟨w2.heap.size + 1, 1, none⟩ = some (.slice asv xsv.length csv) ∧ w'.cell? ⟨w3.heap.size, 0, none⟩ = some (.bool no) ∧ w'.cell? ⟨w3.heap.size, 1, none⟩ = some (.slice ao xo.length co) ∧ w'.cell? ⟨w3.heap.size + 1, 0, none⟩ = some (.bool ntv) ∧ w'.cell? ⟨w3.heap.size + 1, 1, none⟩ = some (.slice atv xtv.length ctv) ∧ w'.cell? ⟨w4.heap.size, 0, none⟩ = some (.bool nx) ∧ w'.cell? ⟨w4.heap.size, 1, none⟩ = some (.slice ax xx.length cx) ∧ w'.cell? ⟨w6.heap.size, 0, none⟩ = some (.bool nl) ∧ w'.cell? ⟨w6.heap.size, 1, none⟩ = some (.slice al xl.length cl)) := fun w' h => HKB.out w' (below_step b h)
  clear b
  obtain ⟨c0, c1, c2, c3, c4, c5, c6, c7, c8, c9, c10, c11, c12, c13, c14, c15, c16, c17, c18, c19⟩ := HKB.out w22 (Below.refl _ _)
  go_wp2_with fail
  clear c0 c1 c2 c3 c4 c5 c6 c7 c8 c9 c10 c11 c12 c13 c14 c15 c16 c17 c18 c19
  refine (alike_yes (Zo.out) (Zq.out) (D.out.n2 HR.out).2).mono ?_
  rintro e w23 ⟨rfl, b⟩
  replace Za := hid (Za.out.now b)
  replace Zb := hid (Zb.out.now b)
  replace Zq := hid (Zq.out.now b)
  replace Zr := hid (Zr.out.now b)
  replace Zp := hid (Zp.out.now b)
  replace Zsv := hid (Zsv.out.now b)
  replace Zo := hid (Zo.out.now b)
  replace Ztv := hid (Ztv.out.now b)
  replace Zx := hid (Zx.out.now b)
  replace G := hid (below_step G.out b)
  replace HKB : Hid (∀ w', Below w23.heap.size w23 w' → w'.cell? ⟨w.heap.size, 0, none⟩ = some (.bool na) ∧ w'.cell? ⟨w.heap.size, 1, none⟩ = some (.slice aa xa.length ca) ∧ w'.cell? ⟨w.heap.size + 1, 0, none⟩ = some (.bool nb) ∧ w'.cell? ⟨w.heap.size + 1, 1, none⟩ = some (.slice ab xb.length cb) ∧ w'.cell? ⟨w1.heap.size, 0, none⟩ = some (.bool nq) ∧ w'.cell? ⟨w1.heap.size, 1, none⟩ = some (.slice aq xq.length cq) ∧ w'.cell? ⟨w1.heap.size + 1, 0, none⟩ = some (.bool nr) ∧ w'.cell? ⟨w1.heap.size + 1, 1, none⟩ = some (.slice ar xr.length cr) ∧ w'.cell? ⟨w2.heap.size, 0, none⟩ = some (.bool np) ∧ w'.cell? ⟨w2.heap.size, 1, none⟩ = some (.slice ap xp.length cp) ∧ w'.cell? ⟨w2.heap.size + 1, 0, none⟩ = some (.bool nsv) ∧ w'.cell? ⟨w2.heap.size + 1, 1, none⟩ = some (.slice asv xsv.length csv) ∧ w'.cell? ⟨w3.heap.size, 0, none⟩ = some (.bool no) ∧ w'.cell? ⟨w3.heap.size, 1, none⟩ = some (.slice ao xo.length co) ∧ w'.cell? ⟨w3.heap.size + 1, 0, none⟩ = some (.bool ntv) ∧ w'.cell? ⟨w3.heap.size + 1, 1, none⟩ = some (.slice atv xtv.length ctv) ∧ w'.cell? ⟨w4.heap.size, 0, none⟩ = some (.bool nx) ∧ w'.cell? ⟨w4.heap.size, 1, none⟩ = some (.slice ax xx.length cx) ∧ w'.cell? ⟨w6.heap.size, 0, none⟩ = some (.bool nl) ∧ w'.cell? ⟨w6.heap.size, 1, none⟩ = some (.slice al xl.length cl)) := fun w' h => HKB.out w' (below_step b h)
  clear b
  obtain ⟨c0, c1, c2, c3, c4, c5, c6, c7, c8, c9, c10, c11, c12, c13, c14, c15, c16, c17, c18, c19⟩ := HKB.out w23 (Below.refl _ _)
  go_wp2
  go_ret
  exact ⟨rfl, G.out⟩
end Go.Proofs.YtgdlecghpbckpaaDoor
