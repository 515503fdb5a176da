/-
  Divides0: the walk of ZintDivides where the divisor is 0.
-/
import Derived.Test.YtgdlecghpbckpaaDoorQZDivs
namespace Go.Proofs.YtgdlecghpbckpaaDoor
open Go.RowKit
set_option linter.unusedVariables false

set_option maxHeartbeats 12800000 in
set_option maxRecDepth 100000 in
theorem zintDivides_zero {w : World} {va vb : Value} {A B : Int} (ha : Zi w va A 1048576) (hb : Zi w vb B 1048576) (hT : Sg w) (hB : B = 0) :
    Calls Tryd.prog 4 #[va, vb] w fun e w' => e = .returned (.bool true) ∧ Below w.heap.size w w' := by
  have q4 : ((4 : Int) == 4) = true := rfl
  have q0 : ((0 : Int) == 0) = true := rfl
  have HB0 := hid hB
  clear hB
  have ha0 := hid ha
  obtain ⟨na, xa, aa, ca, rfl, -, -, -⟩ := ha
  have hb0 := hid hb
  obtain ⟨nb, xb, ab, cb, rfl, -, -, -⟩ := hb
  obtain ⟨W0, hW0⟩ : ∃ W0, (w.alloc (duo (.bool na) (.slice aa xa.length ca))).alloc (duo (.bool nb) (.slice ab xb.length cb)) = W0 := ⟨_, rfl⟩
  obtain ⟨b0, sz0⟩ := alloc2 w (duo (.bool na) (.slice aa xa.length ca)) (duo (.bool nb) (.slice ab xb.length cb))
  rw [hW0] at b0 sz0
  have p0 : Duo W0 (w.heap.size) (.bool na) (.slice aa xa.length ca) := by rw [← hW0]; exact duo_late (duo_at (by simp)) _
  have Za := hid (ha0.out.now b0)
  have p1 : Duo W0 (w.heap.size + 1) (.bool nb) (.slice ab xb.length cb) := by rw [← hW0]; exact duo_at (by simp)
  have Zb := hid (hb0.out.now b0)
  have HKB : Hid (∀ w', Below W0.heap.size W0 w' → w'.cell? ⟨w.heap.size, 0, none⟩ = some (.bool na) ∧ w'.cell? ⟨w.heap.size, 1, none⟩ = some (.slice aa xa.length ca) ∧ w'.cell? ⟨w.heap.size + 1, 0, none⟩ = some (.bool nb) ∧ w'.cell? ⟨w.heap.size + 1, 1, none⟩ = some (.slice ab xb.length cb)) := fun w' h => ⟨(p0.below h (by omega)).c0, (p0.below h (by omega)).c1, (p1.below h (by omega)).c0, (p1.below h (by omega)).c1⟩
  have HT := hid (hT.now b0)
  have G := hid b0
  have EW := hid hW0
  clear b0 hW0 p0 p1 ha0 hb0 hT
  go_enter Tryd.func4, Tryd.ntmps4
  go_wp2_with fail
  rw [EW.out]
  clear EW
  refine (awake5_any HT.out).mono ?_
  rintro e wA ⟨rfl, bA⟩
  replace Za := hid (Za.out.now bA)
  replace Zb := hid (Zb.out.now bA)
  replace G := hid (below_step G.out bA)
  replace HKB : Hid (∀ w', Below wA.heap.size wA w' → w'.cell? ⟨w.heap.size, 0, none⟩ = some (.bool na) ∧ w'.cell? ⟨w.heap.size, 1, none⟩ = some (.slice aa xa.length ca) ∧ w'.cell? ⟨w.heap.size + 1, 0, none⟩ = some (.bool nb) ∧ w'.cell? ⟨w.heap.size + 1, 1, none⟩ = some (.slice ab xb.length cb)) := fun w' h => HKB.out w' (below_step bA h)
  clear bA HT
  obtain ⟨c0, c1, c2, c3⟩ := HKB.out wA (Below.refl _ _)
  go_wp2_with fail
  clear c0 c1 c2 c3
  refine (trunc_none Za.out Zb.out HB0.out).mono ?_
  rintro e w1 ⟨r0, r1, rfl, m0, m1, b⟩
  obtain ⟨nq, xq, aq, cq, rfl, -, -, -, -, -⟩ := id m0
  obtain ⟨nr, xr, ar, cr, rfl, -, -, -, -, -⟩ := id m1
  obtain ⟨W1, hW⟩ : ∃ W1, (w1.alloc (duo (.bool nq) (.slice aq xq.length cq))).alloc (duo (.bool nr) (.slice ar xr.length cr)) = W1 := ⟨_, rfl⟩
  obtain ⟨kW, sz1⟩ := alloc2 w1 (duo (.bool nq) (.slice aq xq.length cq)) (duo (.bool nr) (.slice ar xr.length cr))
  rw [hW] at kW sz1
  have p0 : Duo W1 (w1.heap.size) (.bool nq) (.slice aq xq.length cq) := by rw [← hW]; exact duo_late (duo_at (by simp)) _
  have p1 : Duo W1 (w1.heap.size + 1) (.bool nr) (.slice ar xr.length cr) := by rw [← hW]; exact duo_at (by simp)
  replace b := below_step b kW
  replace Za := hid (Za.out.now b)
  replace Zb := hid (Zb.out.now b)
  replace G := hid (below_step G.out b)
  have Zq := hid (m0.now kW)
  have Zr := hid (m1.now kW)
  replace HKB : Hid (∀ w', Below W1.heap.size W1 w' → w'.cell? ⟨w.heap.size, 0, none⟩ = some (.bool na) ∧ w'.cell? ⟨w.heap.size, 1, none⟩ = some (.slice aa xa.length ca) ∧ w'.cell? ⟨w.heap.size + 1, 0, none⟩ = some (.bool nb) ∧ w'.cell? ⟨w.heap.size + 1, 1, none⟩ = some (.slice ab xb.length cb) ∧ w'.cell? ⟨w1.heap.size, 0, none⟩ = some (.bool nq) ∧ w'.cell? ⟨w1.heap.size, 1, none⟩ = some (.slice aq xq.length cq) ∧ w'.cell? ⟨w1.heap.size + 1, 0, none⟩ = some (.bool nr) ∧ w'.cell? ⟨w1.heap.size + 1, 1, none⟩ = some (.slice ar xr.length cr)) := fun w' h => by
    obtain ⟨q0, q1, q2, q3⟩ := HKB.out w' (below_step b h)
    exact ⟨q0, q1, q2, q3, (p0.below h (by omega)).c0, (p0.below h (by omega)).c1, (p1.below h (by omega)).c0, (p1.below h (by omega)).c1⟩
  obtain ⟨c0, c1, c2, c3, c4, c5, c6, c7⟩ := HKB.out W1 (Below.refl _ _)
  rw [← hW] at c0 c1 c2 c3 c4 c5 c6 c7
  have EW := hid hW
  clear b kW hW p0 m0 p1 m1
  go_wp2_with fail
  rw [EW.out]
  clear EW
  clear c0 c1 c2 c3 c4 c5 c6 c7
  refine (floor_zero Za.out Zb.out HB0.out).mono ?_
  rintro e w2 ⟨r0, r1, rfl, m0, m1, b⟩
  obtain ⟨np, xp, ap, cp, rfl, -, -, -, -, -⟩ := id m0
  obtain ⟨nsv, xsv, asv, csv, rfl, -, -, -, -, -⟩ := id m1
  obtain ⟨W2, hW⟩ : ∃ W2, (w2.alloc (duo (.bool np) (.slice ap xp.length cp))).alloc (duo (.bool nsv) (.slice asv xsv.length csv)) = W2 := ⟨_, rfl⟩
  obtain ⟨kW, sz2⟩ := alloc2 w2 (duo (.bool np) (.slice ap xp.length cp)) (duo (.bool nsv) (.slice asv xsv.length csv))
  rw [hW] at kW sz2
  have p0 : Duo W2 (w2.heap.size) (.bool np) (.slice ap xp.length cp) := by rw [← hW]; exact duo_late (duo_at (by simp)) _
  have p1 : Duo W2 (w2.heap.size + 1) (.bool nsv) (.slice asv xsv.length csv) := by rw [← hW]; exact duo_at (by simp)
  replace b := below_step b kW
  replace Za := hid (Za.out.now b)
  replace Zb := hid (Zb.out.now b)
  replace Zq := hid (Zq.out.now b)
  replace Zr := hid (Zr.out.now b)
  replace G := hid (below_step G.out b)
  have Zp := hid (m0.now kW)
  have Zsv := hid (m1.now kW)
  replace HKB : Hid (∀ w', Below W2.heap.size W2 w' → w'.cell? ⟨w.heap.size, 0, none⟩ = some (.bool na) ∧ w'.cell? ⟨w.heap.size, 1, none⟩ = some (.slice aa xa.length ca) ∧ w'.cell? ⟨w.heap.size + 1, 0, none⟩ = some (.bool nb) ∧ w'.cell? ⟨w.heap.size + 1, 1, none⟩ = some (.slice ab xb.length cb) ∧ w'.cell? ⟨w1.heap.size, 0, none⟩ = some (.bool nq) ∧ w'.cell? ⟨w1.heap.size, 1, none⟩ = some (.slice aq xq.length cq) ∧ w'.cell? ⟨w1.heap.size + 1, 0, none⟩ = some (.bool nr) ∧ w'.cell? ⟨w1.heap.size + 1, 1, none⟩ = some (.slice ar xr.length cr) ∧ w'.cell? ⟨w2.heap.size, 0, none⟩ = some (.bool np) ∧ w'.cell? ⟨w2.heap.size, 1, none⟩ = some (.slice ap xp.length cp) ∧ w'.cell? ⟨w2.heap.size + 1, 0, none⟩ = some (.bool nsv) ∧ w'.cell? ⟨w2.heap.size + 1, 1, none⟩ = some (.slice asv xsv.length csv)) := fun w' h => by
    obtain ⟨q0, q1, q2, q3, q4, q5, q6, q7⟩ := HKB.out w' (below_step b h)
    exact ⟨q0, q1, q2, q3, q4, q5, q6, q7, (p0.below h (by omega)).c0, (p0.below h (by omega)).c1, (p1.below h (by omega)).c0, (p1.below h (by omega)).c1⟩
  obtain ⟨c0, c1, c2, c3, c4, c5, c6, c7, c8, c9, c10, c11⟩ := HKB.out W2 (Below.refl _ _)
  rw [← hW] at c0 c1 c2 c3 c4 c5 c6 c7 c8 c9 c10 c11
  have EW := hid hW
  clear b kW hW p0 m0 p1 m1
  go_wp2_with fail
  rw [EW.out]
  clear EW
  clear c0 c1 c2 c3 c4 c5 c6 c7 c8 c9 c10 c11
  refine (euclid_zero Za.out Zb.out HB0.out).mono ?_
  rintro e w3 ⟨r0, r1, rfl, m0, m1, b⟩
  obtain ⟨no, xo, ao, co, rfl, -, -, -, -, -⟩ := id m0
  obtain ⟨ntv, xtv, atv, ctv, rfl, -, -, -, -, -⟩ := id m1
  obtain ⟨W3, hW⟩ : ∃ W3, (w3.alloc (duo (.bool no) (.slice ao xo.length co))).alloc (duo (.bool ntv) (.slice atv xtv.length ctv)) = W3 := ⟨_, rfl⟩
  obtain ⟨kW, sz3⟩ := alloc2 w3 (duo (.bool no) (.slice ao xo.length co)) (duo (.bool ntv) (.slice atv xtv.length ctv))
  rw [hW] at kW sz3
  have p0 : Duo W3 (w3.heap.size) (.bool no) (.slice ao xo.length co) := by rw [← hW]; exact duo_late (duo_at (by simp)) _
  have p1 : Duo W3 (w3.heap.size + 1) (.bool ntv) (.slice atv xtv.length ctv) := by rw [← hW]; exact duo_at (by simp)
  replace b := below_step b kW
  replace Za := hid (Za.out.now b)
  replace Zb := hid (Zb.out.now b)
  replace Zq := hid (Zq.out.now b)
  replace Zr := hid (Zr.out.now b)
  replace Zp := hid (Zp.out.now b)
  replace Zsv := hid (Zsv.out.now b)
  replace G := hid (below_step G.out b)
  have Zo := hid (m0.now kW)
  have Ztv := hid (m1.now kW)
  replace HKB : Hid (∀ w', Below W3.heap.size W3 w' → w'.cell? ⟨w.heap.size, 0, none⟩ = some (.bool na) ∧ w'.cell? ⟨w.heap.size, 1, none⟩ = some (.slice aa xa.length ca) ∧ w'.cell? ⟨w.heap.size + 1, 0, none⟩ = some (.bool nb) ∧ w'.cell? ⟨w.heap.size + 1, 1, none⟩ = some (.slice ab xb.length cb) ∧ w'.cell? ⟨w1.heap.size, 0, none⟩ = some (.bool nq) ∧ w'.cell? ⟨w1.heap.size, 1, none⟩ = some (.slice aq xq.length cq) ∧ w'.cell? ⟨w1.heap.size + 1, 0, none⟩ = some (.bool nr) ∧ w'.cell? ⟨w1.heap.size + 1, 1, none⟩ = some (.slice ar xr.length cr) ∧ w'.cell? ⟨w2.heap.size, 0, none⟩ = some (.bool np) ∧ w'.cell? ⟨w2.heap.size, 1, none⟩ = some (.slice ap xp.length cp) ∧ w'.cell? ⟨w2.heap.size + 1, 0, none⟩ = some (.bool nsv) ∧ w'.cell? ⟨w2.heap.size + 1, 1, none⟩ = some (.slice asv xsv.length csv) ∧ w'.cell? ⟨w3.heap.size, 0, none⟩ = some (.bool no) ∧ w'.cell? ⟨w3.heap.size, 1, none⟩ = some (.slice ao xo.length co) ∧ w'.cell? ⟨w3.heap.size + 1, 0, none⟩ = some (.bool ntv) ∧ w'.cell? ⟨w3.heap.size + 1, 1, none⟩ = some (.slice atv xtv.length ctv)) := fun w' h => by
    obtain ⟨q0, q1, q2, q3, q4, q5, q6, q7, q8, q9, q10, q11⟩ := HKB.out w' (below_step b h)
    exact ⟨q0, q1, q2, q3, q4, q5, q6, q7, q8, q9, q10, q11, (p0.below h (by omega)).c0, (p0.below h (by omega)).c1, (p1.below h (by omega)).c0, (p1.below h (by omega)).c1⟩
  obtain ⟨c0, c1, c2, c3, c4, c5, c6, c7, c8, c9, c10, c11, c12, c13, c14, c15⟩ := HKB.out W3 (Below.refl _ _)
  rw [← hW] at c0 c1 c2 c3 c4 c5 c6 c7 c8 c9 c10 c11 c12 c13 c14 c15
  have EW := hid hW
  clear b kW hW p0 m0 p1 m1
  go_wp2_with fail
  rw [EW.out]
  clear EW
  clear c0 c1 c2 c3 c4 c5 c6 c7 c8 c9 c10 c11 c12 c13 c14 c15
  refine (exact_none Za.out Zb.out HB0.out).mono ?_
  rintro e w4 ⟨r0, rfl, m0, b⟩
  obtain ⟨nx, xx, ax, cx, rfl, -, -, -, -, -⟩ := id m0
  obtain ⟨W4, hW⟩ : ∃ W4, w4.alloc (duo (.bool nx) (.slice ax xx.length cx)) = W4 := ⟨_, rfl⟩
  obtain ⟨kW, sz4⟩ := alloc1 w4 (duo (.bool nx) (.slice ax xx.length cx))
  rw [hW] at kW sz4
  have p0 : Duo W4 (w4.heap.size) (.bool nx) (.slice ax xx.length cx) := by rw [← hW]; exact duo_at (by simp)
  replace b := below_step b kW
  replace Za := hid (Za.out.now b)
  replace Zb := hid (Zb.out.now b)
  replace Zq := hid (Zq.out.now b)
  replace Zr := hid (Zr.out.now b)
  replace Zp := hid (Zp.out.now b)
  replace Zsv := hid (Zsv.out.now b)
  replace Zo := hid (Zo.out.now b)
  replace Ztv := hid (Ztv.out.now b)
  replace G := hid (below_step G.out b)
  have Zx := hid (m0.now kW)
  replace HKB : Hid (∀ w', Below W4.heap.size W4 w' → w'.cell? ⟨w.heap.size, 0, none⟩ = some (.bool na) ∧ w'.cell? ⟨w.heap.size, 1, none⟩ = some (.slice aa xa.length ca) ∧ w'.cell? ⟨w.heap.size + 1, 0, none⟩ = some (.bool nb) ∧ w'.cell? ⟨w.heap.size + 1, 1, none⟩ = some (.slice ab xb.length cb) ∧ w'.cell? ⟨w1.heap.size, 0, none⟩ = some (.bool nq) ∧ w'.cell? ⟨w1.heap.size, 1, none⟩ = some (.slice aq xq.length cq) ∧ w'.cell? ⟨w1.heap.size + 1, 0, none⟩ = some (.bool nr) ∧ w'.cell? ⟨w1.heap.size + 1, 1, none⟩ = some (.slice ar xr.length cr) ∧ w'.cell? ⟨w2.heap.size, 0, none⟩ = some (.bool np) ∧ w'.cell? ⟨w2.heap.size, 1, none⟩ = some (.slice ap xp.length cp) ∧ w'.cell? ⟨w2.heap.size + 1, 0, none⟩ = some (.bool nsv) ∧ w'.cell? ⟨w2.heap.size + 1, 1, none⟩ = some (.slice asv xsv.length csv) ∧ w'.cell? ⟨w3.heap.size, 0, none⟩ = some (.bool no) ∧ w'.cell? ⟨w3.heap.size, 1, none⟩ = some (.slice ao xo.length co) ∧ w'.cell? ⟨w3.heap.size + 1, 0, none⟩ = some (.bool ntv) ∧ w'.cell? ⟨w3.heap.size + 1, 1, none⟩ = some (.slice atv xtv.length ctv) ∧ w'.cell? ⟨w4.heap.size, 0, none⟩ = some (.bool nx) ∧ w'.cell? ⟨w4.heap.size, 1, none⟩ = some (.slice ax xx.length cx)) := fun w' h => by
    obtain ⟨q0, q1, q2, q3, q4, q5, q6, q7, q8, q9, q10, q11, q12, q13, q14, q15⟩ := HKB.out w' (below_step b h)
    exact ⟨q0, q1, q2, q3, q4, q5, q6, q7, q8, q9, q10, q11, q12, q13, q14, q15, (p0.below h (by omega)).c0, (p0.below h (by omega)).c1⟩
  obtain ⟨c0, c1, c2, c3, c4, c5, c6, c7, c8, c9, c10, c11, c12, c13, c14, c15, c16, c17⟩ := HKB.out W4 (Below.refl _ _)
  rw [← hW] at c0 c1 c2 c3 c4 c5 c6 c7 c8 c9 c10 c11 c12 c13 c14 c15 c16 c17
  have EW := hid hW
  clear b kW hW p0 m0
  go_wp2_with fail
  rw [EW.out]
  clear EW
  clear c0 c1 c2 c3 c4 c5 c6 c7 c8 c9 c10 c11 c12 c13 c14 c15 c16 c17
  refine (int_as (sign_z (Zb.out)) (show cmpI B 0 = 0 by rw [HB0.out]; exact cmpI_self 0)).mono ?_
  rintro e w5 ⟨rfl, b⟩
  replace Za := hid (Za.out.now b)
  replace Zb := hid (Zb.out.now b)
  replace Zq := hid (Zq.out.now b)
  replace Zr := hid (Zr.out.now b)
  replace Zp := hid (Zp.out.now b)
  replace Zsv := hid (Zsv.out.now b)
  replace Zo := hid (Zo.out.now b)
  replace Ztv := hid (Ztv.out.now b)
  replace Zx := hid (Zx.out.now b)
  replace G := hid (below_step G.out b)
  replace HKB : Hid (∀ w', Below w5.heap.size w5 w' → w'.cell? ⟨w.heap.size, 0, none⟩ = some (.bool na) ∧ w'.cell? ⟨w.heap.size, 1, none⟩ = some (.slice aa xa.length ca) ∧ w'.cell? ⟨w.heap.size + 1, 0, none⟩ = some (.bool nb) ∧ w'.cell? ⟨w.heap.size + 1, 1, none⟩ = some (.slice ab xb.length cb) ∧ w'.cell? ⟨w1.heap.size, 0, none⟩ = some (.bool nq) ∧ w'.cell? ⟨w1.heap.size, 1, none⟩ = some (.slice aq xq.length cq) ∧ w'.cell? ⟨w1.heap.size + 1, 0, none⟩ = some (.bool nr) ∧ w'.cell? ⟨w1.heap.size + 1, 1, none⟩ = some (.slice ar xr.length cr) ∧ w'.cell? ⟨w2.heap.size, 0, none⟩ = some (.bool np) ∧ w'.cell? ⟨w2.heap.size, 1, none⟩ = some (.slice ap xp.length cp) ∧ w'.cell? ⟨w2.heap.size + 1, 0, none⟩ = some (.bool nsv) ∧ w'.cell? ⟨w2.heap.size + 1, 1, none⟩ = some (.slice asv xsv.length csv) ∧ w'.cell? ⟨w3.heap.size, 0, none⟩ = some (.bool no) ∧ w'.cell? ⟨w3.heap.size, 1, none⟩ = some (.slice ao xo.length co) ∧ w'.cell? ⟨w3.heap.size + 1, 0, none⟩ = some (.bool ntv) ∧ w'.cell? ⟨w3.heap.size + 1, 1, none⟩ = some (.slice atv xtv.length ctv) ∧ w'.cell? ⟨w4.heap.size, 0, none⟩ = some (.bool nx) ∧ w'.cell? ⟨w4.heap.size, 1, none⟩ = some (.slice ax xx.length cx)) := fun w' h => HKB.out w' (below_step b h)
  clear b
  obtain ⟨c0, c1, c2, c3, c4, c5, c6, c7, c8, c9, c10, c11, c12, c13, c14, c15, c16, c17⟩ := HKB.out w5 (Below.refl _ _)
  go_wp2
  go_ret
  exact ⟨rfl, G.out⟩
end Go.Proofs.YtgdlecghpbckpaaDoor
