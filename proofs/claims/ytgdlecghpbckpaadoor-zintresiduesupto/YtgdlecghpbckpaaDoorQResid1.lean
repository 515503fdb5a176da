/-
  Resid1: the walk of ZintResidues where m is not 0.
-/
import Derived.Test.YtgdlecghpbckpaaDoorQResid0
import Derived.Deep.Cut
namespace Go.Proofs.YtgdlecghpbckpaaDoor
open Go.RowKit
set_option linter.unusedVariables false

set_option maxHeartbeats 12800000 in
set_option maxRecDepth 100000 in
theorem zintResidues_not {w : World} {va vb vc : Value} {A B M : Int} (ha : Zi w va A 1048576) (hb : Zi w vb B 1048576) (hm : Zi w vc M 1048576) (hT : Sg w) (hM : M ≠ 0) (hs : cmpI (A % M + A % M) (M.natAbs : Int) ≤ 0) :
    Calls Tryd.prog 6 #[va, vb, vc] w fun e w' => e = .returned (.bool true) ∧ Below w.heap.size w w' := by
  have HM0 := hid hM
  have sM : cmpI M 0 ≠ 0 := fun e => hM (cmpI_zero e)
  have E3 : Hid (∀ w', _) := fun (w' : World) (v : Value) (k : Nat) (h : Zi w' v M k) => sign_z h
  have WX := hid (mod_in A hM)
  have WY := hid (mod_in B hM)
  have F1 := hid (res_mul A B M)
  have F2 := hid (res_add A B M)
  have F3 := hid (res_more A B M)
  have HMN : Hid (-M ≠ 0) := by unfold Hid; omega
  have EC : Hid (∀ w', _) := fun (w' : World) (v u : Value) (k l : Nat) (h : Zi w' v (A % M + A % M) k) (h' : Zi w' u (M.natAbs : Int) l) => cmp_z h h'
  have FS : Hid (symv A M = A % M) := res_sym hM (.inl ⟨hs, rfl⟩)
  generalize cmpI (A % M + A % M) (M.natAbs : Int) = T at *
  have dT : decide (T ≤ 0) = true := decide_eq_true hs
  generalize cmpI M 0 = SM at *
  have q0 : (SM == 0) = false := by simp [sM]
  have q1 : ((0 : Int) != 0) = false := rfl
  clear hM sM
  have ha0 := hid ha
  obtain ⟨na, xa, aa, ca, rfl, -, -, -⟩ := ha
  have hb0 := hid hb
  obtain ⟨nb, xb, ab, cb, rfl, -, -, -⟩ := hb
  have hm0 := hid hm
  obtain ⟨nm, xm, am, cm, rfl, -, -, -⟩ := hm
  obtain ⟨W0, hW0⟩ : ∃ W0, ((w.alloc (duo (.bool na) (.slice aa xa.length ca))).alloc (duo (.bool nb) (.slice ab xb.length cb))).alloc (duo (.bool nm) (.slice am xm.length cm)) = W0 := ⟨_, rfl⟩
  obtain ⟨b0, sz0⟩ := alloc3 w (duo (.bool na) (.slice aa xa.length ca)) (duo (.bool nb) (.slice ab xb.length cb)) (duo (.bool nm) (.slice am xm.length cm))
  rw [hW0] at b0 sz0
  have p : Duo W0 (w.heap.size) (.bool na) (.slice aa xa.length ca) := by rw [← hW0]; exact duo_late (duo_late (duo_at (by simp)) _) _
  have Ka : Hid (∀ w', Below W0.heap.size W0 w' → w'.cell? ⟨w.heap.size, 0, none⟩ = some (.bool na) ∧ w'.cell? ⟨w.heap.size, 1, none⟩ = some (.slice aa xa.length ca)) := fun w' h => ⟨(p.below h (by omega)).c0, (p.below h (by omega)).c1⟩
  clear p
  have Za := hid (ha0.out.now b0)
  have p : Duo W0 (w.heap.size + 1) (.bool nb) (.slice ab xb.length cb) := by rw [← hW0]; exact duo_late (duo_at (by simp)) _
  have Kb : Hid (∀ w', Below W0.heap.size W0 w' → w'.cell? ⟨w.heap.size + 1, 0, none⟩ = some (.bool nb) ∧ w'.cell? ⟨w.heap.size + 1, 1, none⟩ = some (.slice ab xb.length cb)) := fun w' h => ⟨(p.below h (by omega)).c0, (p.below h (by omega)).c1⟩
  clear p
  have Zb := hid (hb0.out.now b0)
  have p : Duo W0 (w.heap.size + 1 + 1) (.bool nm) (.slice am xm.length cm) := by rw [← hW0]; exact duo_at (by simp)
  have Km : Hid (∀ w', Below W0.heap.size W0 w' → w'.cell? ⟨w.heap.size + 1 + 1, 0, none⟩ = some (.bool nm) ∧ w'.cell? ⟨w.heap.size + 1 + 1, 1, none⟩ = some (.slice am xm.length cm)) := fun w' h => ⟨(p.below h (by omega)).c0, (p.below h (by omega)).c1⟩
  clear p
  have Zm := hid (hm0.out.now b0)
  have HT := hid (hT.now b0)
  have G := hid b0
  have EW := hid hW0
  have lz0 := b0.size
  clear b0 hW0 ha0 hb0 hm0 hT
  go_enter Tryd.func6, Tryd.ntmps6
  go_wp2_with fail
  rw [EW.out]
  clear EW
  refine (awake5_any HT.out).mono ?_
  rintro e wA ⟨rfl, bA⟩
  replace Za := hid (Za.out.now bA)
  replace Zb := hid (Zb.out.now bA)
  replace Zm := hid (Zm.out.now bA)
  replace G := hid (below_step G.out bA)
  have lz1 := (show Below _ _ _ from bA).size
  replace Ka : Hid (∀ w', Below wA.heap.size wA w' → w'.cell? ⟨w.heap.size, 0, none⟩ = some (.bool na) ∧ w'.cell? ⟨w.heap.size, 1, none⟩ = some (.slice aa xa.length ca)) := fun w' h => Ka.out w' (below_step bA h)
  replace Kb : Hid (∀ w', Below wA.heap.size wA w' → w'.cell? ⟨w.heap.size + 1, 0, none⟩ = some (.bool nb) ∧ w'.cell? ⟨w.heap.size + 1, 1, none⟩ = some (.slice ab xb.length cb)) := fun w' h => Kb.out w' (below_step bA h)
  replace Km : Hid (∀ w', Below wA.heap.size wA w' → w'.cell? ⟨w.heap.size + 1 + 1, 0, none⟩ = some (.bool nm) ∧ w'.cell? ⟨w.heap.size + 1 + 1, 1, none⟩ = some (.slice am xm.length cm)) := fun w' h => Km.out w' (below_step bA h)
  clear bA HT
  obtain ⟨ca0, ca1⟩ := Ka.out wA (Below.refl _ _)
  obtain ⟨cm0, cm1⟩ := Km.out wA (Below.refl _ _)
  go_wp2_with fail
  clear ca0 ca1 cm0 cm1
  refine (mod_z Za.out Zm.out HM0.out (by decide) (by decide)).mono ?_
  rintro e w1 ⟨r0, rfl, m0, b⟩
  obtain ⟨nx, xx, ax, cx, rfl, -, -, -, -, -⟩ := id m0
  obtain ⟨W1, hW⟩ : ∃ W1, w1.alloc (duo (.bool nx) (.slice ax xx.length cx)) = W1 := ⟨_, rfl⟩
  obtain ⟨kW, sz1⟩ := alloc1 w1 (duo (.bool nx) (.slice ax xx.length cx))
  rw [hW] at kW sz1
  replace b := below_step b kW
  replace Za := hid (Za.out.now b)
  replace Zb := hid (Zb.out.now b)
  replace Zm := hid (Zm.out.now b)
  replace G := hid (below_step G.out b)
  have lz2 := (show Below _ _ _ from b).size
  replace Ka : Hid (∀ w', Below W1.heap.size W1 w' → w'.cell? ⟨w.heap.size, 0, none⟩ = some (.bool na) ∧ w'.cell? ⟨w.heap.size, 1, none⟩ = some (.slice aa xa.length ca)) := fun w' h => Ka.out w' (below_step b h)
  replace Kb : Hid (∀ w', Below W1.heap.size W1 w' → w'.cell? ⟨w.heap.size + 1, 0, none⟩ = some (.bool nb) ∧ w'.cell? ⟨w.heap.size + 1, 1, none⟩ = some (.slice ab xb.length cb)) := fun w' h => Kb.out w' (below_step b h)
  replace Km : Hid (∀ w', Below W1.heap.size W1 w' → w'.cell? ⟨w.heap.size + 1 + 1, 0, none⟩ = some (.bool nm) ∧ w'.cell? ⟨w.heap.size + 1 + 1, 1, none⟩ = some (.slice am xm.length cm)) := fun w' h => Km.out w' (below_step b h)
  have p : Duo W1 (w1.heap.size) (.bool nx) (.slice ax xx.length cx) := by rw [← hW]; exact duo_at (by simp)
  have Kx : Hid (∀ w', Below W1.heap.size W1 w' → w'.cell? ⟨w1.heap.size, 0, none⟩ = some (.bool nx) ∧ w'.cell? ⟨w1.heap.size, 1, none⟩ = some (.slice ax xx.length cx)) := fun w' h => ⟨(p.below h (by omega)).c0, (p.below h (by omega)).c1⟩
  clear p
  have Zx := hid (m0.now kW)
  clear b kW m0
  obtain ⟨ca0, ca1⟩ := Ka.out W1 (Below.refl _ _)
  obtain ⟨cm0, cm1⟩ := Km.out W1 (Below.refl _ _)
  rw [← hW] at ca0 ca1 cm0 cm1
  have EW := hid hW
  clear hW
  go_wp2_with fail
  rw [EW.out]
  clear EW
  clear ca0 ca1 cm0 cm1
  refine (sym_z Za.out Zm.out HM0.out (by decide) (by decide)).mono ?_
  rintro e w2 ⟨r0, rfl, m0, b⟩
  obtain ⟨nsv, xsv, asv, csv, rfl, -, -, -, -, -⟩ := id m0
  obtain ⟨W2, hW⟩ : ∃ W2, w2.alloc (duo (.bool nsv) (.slice asv xsv.length csv)) = W2 := ⟨_, rfl⟩
  obtain ⟨kW, sz2⟩ := alloc1 w2 (duo (.bool nsv) (.slice asv xsv.length csv))
  rw [hW] at kW sz2
  replace b := below_step b kW
  replace Za := hid (Za.out.now b)
  replace Zb := hid (Zb.out.now b)
  replace Zm := hid (Zm.out.now b)
  replace Zx := hid (Zx.out.now b)
  replace G := hid (below_step G.out b)
  have lz3 := (show Below _ _ _ from b).size
  replace Ka : Hid (∀ w', Below W2.heap.size W2 w' → w'.cell? ⟨w.heap.size, 0, none⟩ = some (.bool na) ∧ w'.cell? ⟨w.heap.size, 1, none⟩ = some (.slice aa xa.length ca)) := fun w' h => Ka.out w' (below_step b h)
  replace Kb : Hid (∀ w', Below W2.heap.size W2 w' → w'.cell? ⟨w.heap.size + 1, 0, none⟩ = some (.bool nb) ∧ w'.cell? ⟨w.heap.size + 1, 1, none⟩ = some (.slice ab xb.length cb)) := fun w' h => Kb.out w' (below_step b h)
  replace Km : Hid (∀ w', Below W2.heap.size W2 w' → w'.cell? ⟨w.heap.size + 1 + 1, 0, none⟩ = some (.bool nm) ∧ w'.cell? ⟨w.heap.size + 1 + 1, 1, none⟩ = some (.slice am xm.length cm)) := fun w' h => Km.out w' (below_step b h)
  replace Kx : Hid (∀ w', Below W2.heap.size W2 w' → w'.cell? ⟨w1.heap.size, 0, none⟩ = some (.bool nx) ∧ w'.cell? ⟨w1.heap.size, 1, none⟩ = some (.slice ax xx.length cx)) := fun w' h => Kx.out w' (below_step b h)
  have p : Duo W2 (w2.heap.size) (.bool nsv) (.slice asv xsv.length csv) := by rw [← hW]; exact duo_at (by simp)
  have Ksv : Hid (∀ w', Below W2.heap.size W2 w' → w'.cell? ⟨w2.heap.size, 0, none⟩ = some (.bool nsv) ∧ w'.cell? ⟨w2.heap.size, 1, none⟩ = some (.slice asv xsv.length csv)) := fun w' h => ⟨(p.below h (by omega)).c0, (p.below h (by omega)).c1⟩
  clear p
  have Zsv := hid (m0.now kW)
  clear b kW m0
  obtain ⟨cm0, cm1⟩ := Km.out W2 (Below.refl _ _)
  rw [← hW] at cm0 cm1
  have EW := hid hW
  clear hW
  go_wp2_with fail
  rw [EW.out]
  clear EW
  clear cm0 cm1
  refine (E3.out _ _ _ (Zm.out)).mono ?_
  rintro e w3 ⟨rfl, b⟩
  replace Za := hid (Za.out.now b)
  replace Zb := hid (Zb.out.now b)
  replace Zm := hid (Zm.out.now b)
  replace Zx := hid (Zx.out.now b)
  replace Zsv := hid (Zsv.out.now b)
  replace G := hid (below_step G.out b)
  have lz4 := (show Below _ _ _ from b).size
  replace Ka : Hid (∀ w', Below w3.heap.size w3 w' → w'.cell? ⟨w.heap.size, 0, none⟩ = some (.bool na) ∧ w'.cell? ⟨w.heap.size, 1, none⟩ = some (.slice aa xa.length ca)) := fun w' h => Ka.out w' (below_step b h)
  replace Kb : Hid (∀ w', Below w3.heap.size w3 w' → w'.cell? ⟨w.heap.size + 1, 0, none⟩ = some (.bool nb) ∧ w'.cell? ⟨w.heap.size + 1, 1, none⟩ = some (.slice ab xb.length cb)) := fun w' h => Kb.out w' (below_step b h)
  replace Km : Hid (∀ w', Below w3.heap.size w3 w' → w'.cell? ⟨w.heap.size + 1 + 1, 0, none⟩ = some (.bool nm) ∧ w'.cell? ⟨w.heap.size + 1 + 1, 1, none⟩ = some (.slice am xm.length cm)) := fun w' h => Km.out w' (below_step b h)
  replace Kx : Hid (∀ w', Below w3.heap.size w3 w' → w'.cell? ⟨w1.heap.size, 0, none⟩ = some (.bool nx) ∧ w'.cell? ⟨w1.heap.size, 1, none⟩ = some (.slice ax xx.length cx)) := fun w' h => Kx.out w' (below_step b h)
  replace Ksv : Hid (∀ w', Below w3.heap.size w3 w' → w'.cell? ⟨w2.heap.size, 0, none⟩ = some (.bool nsv) ∧ w'.cell? ⟨w2.heap.size, 1, none⟩ = some (.slice asv xsv.length csv)) := fun w' h => Ksv.out w' (below_step b h)
  clear b
  obtain ⟨cb0, cb1⟩ := Kb.out w3 (Below.refl _ _)
  obtain ⟨cm0, cm1⟩ := Km.out w3 (Below.refl _ _)
  go_wp2_with fail
  clear cb0 cb1 cm0 cm1
  refine (mod_z Zb.out Zm.out HM0.out (by decide) (by decide)).mono ?_
  rintro e w4 ⟨r0, rfl, m0, b⟩
  obtain ⟨ny, xy, ay, cy, rfl, -, -, -, -, -⟩ := id m0
  obtain ⟨W4, hW⟩ : ∃ W4, w4.alloc (duo (.bool ny) (.slice ay xy.length cy)) = W4 := ⟨_, rfl⟩
  obtain ⟨kW, sz4⟩ := alloc1 w4 (duo (.bool ny) (.slice ay xy.length cy))
  rw [hW] at kW sz4
  replace b := below_step b kW
  replace Za := hid (Za.out.now b)
  replace Zb := hid (Zb.out.now b)
  replace Zm := hid (Zm.out.now b)
  replace Zx := hid (Zx.out.now b)
  replace Zsv := hid (Zsv.out.now b)
  replace G := hid (below_step G.out b)
  have lz5 := (show Below _ _ _ from b).size
  replace Ka : Hid (∀ w', Below W4.heap.size W4 w' → w'.cell? ⟨w.heap.size, 0, none⟩ = some (.bool na) ∧ w'.cell? ⟨w.heap.size, 1, none⟩ = some (.slice aa xa.length ca)) := fun w' h => Ka.out w' (below_step b h)
  replace Kb : Hid (∀ w', Below W4.heap.size W4 w' → w'.cell? ⟨w.heap.size + 1, 0, none⟩ = some (.bool nb) ∧ w'.cell? ⟨w.heap.size + 1, 1, none⟩ = some (.slice ab xb.length cb)) := fun w' h => Kb.out w' (below_step b h)
  replace Km : Hid (∀ w', Below W4.heap.size W4 w' → w'.cell? ⟨w.heap.size + 1 + 1, 0, none⟩ = some (.bool nm) ∧ w'.cell? ⟨w.heap.size + 1 + 1, 1, none⟩ = some (.slice am xm.length cm)) := fun w' h => Km.out w' (below_step b h)
  replace Kx : Hid (∀ w', Below W4.heap.size W4 w' → w'.cell? ⟨w1.heap.size, 0, none⟩ = some (.bool nx) ∧ w'.cell? ⟨w1.heap.size, 1, none⟩ = some (.slice ax xx.length cx)) := fun w' h => Kx.out w' (below_step b h)
  replace Ksv : Hid (∀ w', Below W4.heap.size W4 w' → w'.cell? ⟨w2.heap.size, 0, none⟩ = some (.bool nsv) ∧ w'.cell? ⟨w2.heap.size, 1, none⟩ = some (.slice asv xsv.length csv)) := fun w' h => Ksv.out w' (below_step b h)
  have p : Duo W4 (w4.heap.size) (.bool ny) (.slice ay xy.length cy) := by rw [← hW]; exact duo_at (by simp)
  have Ky : Hid (∀ w', Below W4.heap.size W4 w' → w'.cell? ⟨w4.heap.size, 0, none⟩ = some (.bool ny) ∧ w'.cell? ⟨w4.heap.size, 1, none⟩ = some (.slice ay xy.length cy)) := fun w' h => ⟨(p.below h (by omega)).c0, (p.below h (by omega)).c1⟩
  clear p
  have Zy := hid (m0.now kW)
  clear b kW m0
  obtain ⟨cx0, cx1⟩ := Kx.out W4 (Below.refl _ _)
  obtain ⟨cm0, cm1⟩ := Km.out W4 (Below.refl _ _)
  rw [← hW] at cx0 cx1 cm0 cm1
  have EW := hid hW
  clear hW
  go_wp2_with fail
  rw [EW.out]
  clear EW
  clear cx0 cx1 cm0 cm1
  refine (within_yes (Zx.out).zi (Zm.out) WX.out).mono ?_
  rintro e w5 ⟨rfl, b⟩
  replace Za := hid (Za.out.now b)
  replace Zb := hid (Zb.out.now b)
  replace Zm := hid (Zm.out.now b)
  replace Zx := hid (Zx.out.now b)
  replace Zsv := hid (Zsv.out.now b)
  replace Zy := hid (Zy.out.now b)
  replace G := hid (below_step G.out b)
  have lz6 := (show Below _ _ _ from b).size
  replace Ka : Hid (∀ w', Below w5.heap.size w5 w' → w'.cell? ⟨w.heap.size, 0, none⟩ = some (.bool na) ∧ w'.cell? ⟨w.heap.size, 1, none⟩ = some (.slice aa xa.length ca)) := fun w' h => Ka.out w' (below_step b h)
  replace Kb : Hid (∀ w', Below w5.heap.size w5 w' → w'.cell? ⟨w.heap.size + 1, 0, none⟩ = some (.bool nb) ∧ w'.cell? ⟨w.heap.size + 1, 1, none⟩ = some (.slice ab xb.length cb)) := fun w' h => Kb.out w' (below_step b h)
  replace Km : Hid (∀ w', Below w5.heap.size w5 w' → w'.cell? ⟨w.heap.size + 1 + 1, 0, none⟩ = some (.bool nm) ∧ w'.cell? ⟨w.heap.size + 1 + 1, 1, none⟩ = some (.slice am xm.length cm)) := fun w' h => Km.out w' (below_step b h)
  replace Kx : Hid (∀ w', Below w5.heap.size w5 w' → w'.cell? ⟨w1.heap.size, 0, none⟩ = some (.bool nx) ∧ w'.cell? ⟨w1.heap.size, 1, none⟩ = some (.slice ax xx.length cx)) := fun w' h => Kx.out w' (below_step b h)
  replace Ksv : Hid (∀ w', Below w5.heap.size w5 w' → w'.cell? ⟨w2.heap.size, 0, none⟩ = some (.bool nsv) ∧ w'.cell? ⟨w2.heap.size, 1, none⟩ = some (.slice asv xsv.length csv)) := fun w' h => Ksv.out w' (below_step b h)
  replace Ky : Hid (∀ w', Below w5.heap.size w5 w' → w'.cell? ⟨w4.heap.size, 0, none⟩ = some (.bool ny) ∧ w'.cell? ⟨w4.heap.size, 1, none⟩ = some (.slice ay xy.length cy)) := fun w' h => Ky.out w' (below_step b h)
  clear b
  obtain ⟨cy0, cy1⟩ := Ky.out w5 (Below.refl _ _)
  obtain ⟨cm0, cm1⟩ := Km.out w5 (Below.refl _ _)
  go_wp2_with fail
  clear cy0 cy1 cm0 cm1
  refine (within_yes (Zy.out).zi (Zm.out) WY.out).mono ?_
  rintro e w6 ⟨rfl, b⟩
  replace Za := hid (Za.out.now b)
  replace Zb := hid (Zb.out.now b)
  replace Zm := hid (Zm.out.now b)
  replace Zx := hid (Zx.out.now b)
  replace Zsv := hid (Zsv.out.now b)
  replace Zy := hid (Zy.out.now b)
  replace G := hid (below_step G.out b)
  have lz7 := (show Below _ _ _ from b).size
  replace Ka : Hid (∀ w', Below w6.heap.size w6 w' → w'.cell? ⟨w.heap.size, 0, none⟩ = some (.bool na) ∧ w'.cell? ⟨w.heap.size, 1, none⟩ = some (.slice aa xa.length ca)) := fun w' h => Ka.out w' (below_step b h)
  replace Kb : Hid (∀ w', Below w6.heap.size w6 w' → w'.cell? ⟨w.heap.size + 1, 0, none⟩ = some (.bool nb) ∧ w'.cell? ⟨w.heap.size + 1, 1, none⟩ = some (.slice ab xb.length cb)) := fun w' h => Kb.out w' (below_step b h)
  replace Km : Hid (∀ w', Below w6.heap.size w6 w' → w'.cell? ⟨w.heap.size + 1 + 1, 0, none⟩ = some (.bool nm) ∧ w'.cell? ⟨w.heap.size + 1 + 1, 1, none⟩ = some (.slice am xm.length cm)) := fun w' h => Km.out w' (below_step b h)
  replace Kx : Hid (∀ w', Below w6.heap.size w6 w' → w'.cell? ⟨w1.heap.size, 0, none⟩ = some (.bool nx) ∧ w'.cell? ⟨w1.heap.size, 1, none⟩ = some (.slice ax xx.length cx)) := fun w' h => Kx.out w' (below_step b h)
  replace Ksv : Hid (∀ w', Below w6.heap.size w6 w' → w'.cell? ⟨w2.heap.size, 0, none⟩ = some (.bool nsv) ∧ w'.cell? ⟨w2.heap.size, 1, none⟩ = some (.slice asv xsv.length csv)) := fun w' h => Ksv.out w' (below_step b h)
  replace Ky : Hid (∀ w', Below w6.heap.size w6 w' → w'.cell? ⟨w4.heap.size, 0, none⟩ = some (.bool ny) ∧ w'.cell? ⟨w4.heap.size, 1, none⟩ = some (.slice ay xy.length cy)) := fun w' h => Ky.out w' (below_step b h)
  clear b
  go_wp2_with fail
  obtain ⟨ca0, ca1⟩ := Ka.out w6 (Below.refl _ _)
  obtain ⟨cb0, cb1⟩ := Kb.out w6 (Below.refl _ _)
  obtain ⟨cm0, cm1⟩ := Km.out w6 (Below.refl _ _)
  go_cut [13, 14] from 24 (fun s1 s2 wx => MetZ w6 wx s1 s2 ((A * B) % M) (max (1048576 + 1048576) 1048576 + 1))
  case first =>
    as_aux_lemma =>
    have HKS : Hid (∀ w', Below w6.heap.size w6 w' → w'.cell? ⟨w.heap.size, 0, none⟩ = some (.bool na) ∧ w'.cell? ⟨w.heap.size, 1, none⟩ = some (.slice aa xa.length ca) ∧ w'.cell? ⟨w.heap.size + 1, 0, none⟩ = some (.bool nb) ∧ w'.cell? ⟨w.heap.size + 1, 1, none⟩ = some (.slice ab xb.length cb) ∧ w'.cell? ⟨w.heap.size + 1 + 1, 0, none⟩ = some (.bool nm) ∧ w'.cell? ⟨w.heap.size + 1 + 1, 1, none⟩ = some (.slice am xm.length cm)) := fun w' h => ⟨(Ka.out w' h).1, (Ka.out w' h).2, (Kb.out w' h).1, (Kb.out w' h).2, (Km.out w' h).1, (Km.out w' h).2⟩
    clear G Ka Kb Km Kx Ksv Ky
    clear Zx Zsv Zy
    have HC0 := hid (fun (w' : World) (h : Below w6.heap.size w6 w') => mul_z (Za.out.now h) (Zb.out.now h) (by decide))
    go_region_held3 (fun w' => w'.cell? ⟨w.heap.size, 0, none⟩ = some (.bool na) ∧ w'.cell? ⟨w.heap.size, 1, none⟩ = some (.slice aa xa.length ca) ∧ w'.cell? ⟨w.heap.size + 1, 0, none⟩ = some (.bool nb) ∧ w'.cell? ⟨w.heap.size + 1, 1, none⟩ = some (.slice ab xb.length cb) ∧ w'.cell? ⟨w.heap.size + 1 + 1, 0, none⟩ = some (.bool nm) ∧ w'.cell? ⟨w.heap.size + 1 + 1, 1, none⟩ = some (.slice am xm.length cm))
      (first
        | ((try dsimp only); refine ⟨?_, ?_, ?_, ?_, ?_, ?_⟩ <;> with_reducible (repeat (refine box_ne (by omega) ?_)) <;> with_reducible assumption)
        | (refine HKS.out _ ?_; repeat (first | with_reducible exact HP8.out | with_reducible exact HP7.out | with_reducible exact Below.refl _ _ | with_reducible apply Below.drew | with_reducible apply below_more)))
      (first
        | (go_at_call 26; refine (HC1.out _ ?_).mono ?_; (repeat (first | exact Below.refl _ _ | apply Below.drew | apply below_more)); rintro e8 w8 ⟨r8, rfl, m8, b8⟩; (first | have DX8 : Hid (Duo w8 w7.heap.size (.bool false) (.slice none 0 0)) := duo_call b8 | have DX8 : Hid (Duo w8 w7.heap.size (.bool false) (.slice none 0 0)) := duo_call_d b8 | have DX8 := hid (DX7.out.below b8 DX7.out.lt) | skip); (first | have ly8 := DX8.out.lt | skip); have HB8 : Hid (Below w7.heap.size w7 w8) := below_step (w0 := w7) (by repeat (first | exact Below.refl _ _ | apply Below.drew | apply below_more)) b8; have HP8 := hid (below_step HP7.out HB8.out); have M8 := hid m8; obtain ⟨n8, t8, a8, q8, rfl, -, -, -, -, -⟩ := m8; have lx8 := HB8.out.size; (first | (have y0 := DX8.out.c0; have y1 := DX8.out.c1; have f0 := DX8.out.fz 0; have f1 := DX8.out.fz 1) | skip); obtain ⟨c8_0, c8_1, c8_2, c8_3, c8_4, c8_5⟩ := HKS.out w8 HP8.out)
        | (go_at_call 8; refine (HC0.out _ ?_).mono ?_; (repeat (first | exact Below.refl _ _ | apply Below.drew | apply below_more)); rintro e7 w7 ⟨r7, rfl, m7, b7⟩; (first | have DX7 : Hid (Duo w7 w6.heap.size (.bool false) (.slice none 0 0)) := duo_call b7 | have DX7 : Hid (Duo w7 w6.heap.size (.bool false) (.slice none 0 0)) := duo_call_d b7 | skip); (first | have ly7 := DX7.out.lt | skip); have HB7 : Hid (Below w6.heap.size w6 w7) := below_step (w0 := w6) (by repeat (first | exact Below.refl _ _ | apply Below.drew | apply below_more)) b7; have HP7 := hid (HB7.out); have M7 := hid m7; obtain ⟨n7, t7, a7, q7, rfl, -, -, -, -, -⟩ := m7; have lx7 := HB7.out.size; have Y7_M := hid (Zm.out.now HB7.out); have HC1 := hid (fun (w' : World) (h : Below w7.heap.size w7 w') => mod_z (M7.out.now h).zi (Y7_M.out.now h) HM0.out (by decide) (by decide)); obtain ⟨c7_0, c7_1, c7_2, c7_3, c7_4, c7_5⟩ := HKS.out w7 HP7.out))
    all_goals (go_wp2_with fail; go_meet; first | exact met_set DX8.out M8.out HP8.out (by omega) (by first | omega | (simp only [World.size_alloc]; omega)) | exact met_new M8.out HP8.out (by first | omega | (simp only [World.size_alloc]; omega)))
  case rest =>
  as_aux_lemma =>
  clear ca0 ca1 cb0 cb1 cm0 cm1
  obtain ⟨bku, nu, xu, au, cu, rfl, rfl, b, geu, ltu, p, m⟩ := hcut
  replace Za := hid (Za.out.now b)
  replace Zb := hid (Zb.out.now b)
  replace Zm := hid (Zm.out.now b)
  replace Zx := hid (Zx.out.now b)
  replace Zsv := hid (Zsv.out.now b)
  replace Zy := hid (Zy.out.now b)
  replace G := hid (below_step G.out b)
  have lz8 := (show Below _ _ _ from b).size
  replace Ka : Hid (∀ w', Below wc.heap.size wc w' → w'.cell? ⟨w.heap.size, 0, none⟩ = some (.bool na) ∧ w'.cell? ⟨w.heap.size, 1, none⟩ = some (.slice aa xa.length ca)) := fun w' h => Ka.out w' (below_step b h)
  replace Kb : Hid (∀ w', Below wc.heap.size wc w' → w'.cell? ⟨w.heap.size + 1, 0, none⟩ = some (.bool nb) ∧ w'.cell? ⟨w.heap.size + 1, 1, none⟩ = some (.slice ab xb.length cb)) := fun w' h => Kb.out w' (below_step b h)
  replace Km : Hid (∀ w', Below wc.heap.size wc w' → w'.cell? ⟨w.heap.size + 1 + 1, 0, none⟩ = some (.bool nm) ∧ w'.cell? ⟨w.heap.size + 1 + 1, 1, none⟩ = some (.slice am xm.length cm)) := fun w' h => Km.out w' (below_step b h)
  replace Kx : Hid (∀ w', Below wc.heap.size wc w' → w'.cell? ⟨w1.heap.size, 0, none⟩ = some (.bool nx) ∧ w'.cell? ⟨w1.heap.size, 1, none⟩ = some (.slice ax xx.length cx)) := fun w' h => Kx.out w' (below_step b h)
  replace Ksv : Hid (∀ w', Below wc.heap.size wc w' → w'.cell? ⟨w2.heap.size, 0, none⟩ = some (.bool nsv) ∧ w'.cell? ⟨w2.heap.size, 1, none⟩ = some (.slice asv xsv.length csv)) := fun w' h => Ksv.out w' (below_step b h)
  replace Ky : Hid (∀ w', Below wc.heap.size wc w' → w'.cell? ⟨w4.heap.size, 0, none⟩ = some (.bool ny) ∧ w'.cell? ⟨w4.heap.size, 1, none⟩ = some (.slice ay xy.length cy)) := fun w' h => Ky.out w' (below_step b h)
  have Zu := hid m
  have Ku : Hid (∀ w', Below wc.heap.size wc w' → w'.cell? ⟨bku, 0, none⟩ = some (.bool nu) ∧ w'.cell? ⟨bku, 1, none⟩ = some (.slice au xu.length cu)) := fun w' h => ⟨(p.below h ltu).c0, (p.below h ltu).c1⟩
  clear b p m
  generalize wc = V8 at *
  go_wp2_with fail
  obtain ⟨cx0, cx1⟩ := Kx.out V8 (Below.refl _ _)
  obtain ⟨cy0, cy1⟩ := Ky.out V8 (Below.refl _ _)
  obtain ⟨cm0, cm1⟩ := Km.out V8 (Below.refl _ _)
  go_cut [15, 16] from 24 (fun s1 s2 wx => MetZ V8 wx s1 s2 (((A % M) * (B % M)) % M) (max ((max 1048576 1048576 + 1) + (max 1048576 1048576 + 1)) 1048576 + 1))
  case first =>
    as_aux_lemma =>
    have HKS : Hid (∀ w', Below V8.heap.size V8 w' → w'.cell? ⟨w1.heap.size, 0, none⟩ = some (.bool nx) ∧ w'.cell? ⟨w1.heap.size, 1, none⟩ = some (.slice ax xx.length cx) ∧ w'.cell? ⟨w4.heap.size, 0, none⟩ = some (.bool ny) ∧ w'.cell? ⟨w4.heap.size, 1, none⟩ = some (.slice ay xy.length cy) ∧ w'.cell? ⟨w.heap.size + 1 + 1, 0, none⟩ = some (.bool nm) ∧ w'.cell? ⟨w.heap.size + 1 + 1, 1, none⟩ = some (.slice am xm.length cm)) := fun w' h => ⟨(Kx.out w' h).1, (Kx.out w' h).2, (Ky.out w' h).1, (Ky.out w' h).2, (Km.out w' h).1, (Km.out w' h).2⟩
    clear G Ka Kb Km Kx Ksv Ky Ku
    clear Za Zb Zsv Zu
    have HC0 := hid (fun (w' : World) (h : Below V8.heap.size V8 w') => mul_z (Zx.out.now h).zi (Zy.out.now h).zi (by decide))
    go_region_held3 (fun w' => w'.cell? ⟨w1.heap.size, 0, none⟩ = some (.bool nx) ∧ w'.cell? ⟨w1.heap.size, 1, none⟩ = some (.slice ax xx.length cx) ∧ w'.cell? ⟨w4.heap.size, 0, none⟩ = some (.bool ny) ∧ w'.cell? ⟨w4.heap.size, 1, none⟩ = some (.slice ay xy.length cy) ∧ w'.cell? ⟨w.heap.size + 1 + 1, 0, none⟩ = some (.bool nm) ∧ w'.cell? ⟨w.heap.size + 1 + 1, 1, none⟩ = some (.slice am xm.length cm))
      (first
        | ((try dsimp only); refine ⟨?_, ?_, ?_, ?_, ?_, ?_⟩ <;> with_reducible (repeat (refine box_ne (by omega) ?_)) <;> with_reducible assumption)
        | (refine HKS.out _ ?_; repeat (first | with_reducible exact HP10.out | with_reducible exact HP9.out | with_reducible exact Below.refl _ _ | with_reducible apply Below.drew | with_reducible apply below_more)))
      (first
        | (go_at_call 26; refine (HC1.out _ ?_).mono ?_; (repeat (first | exact Below.refl _ _ | apply Below.drew | apply below_more)); rintro e10 w10 ⟨r10, rfl, m10, b10⟩; (first | have DX10 : Hid (Duo w10 w9.heap.size (.bool false) (.slice none 0 0)) := duo_call b10 | have DX10 : Hid (Duo w10 w9.heap.size (.bool false) (.slice none 0 0)) := duo_call_d b10 | have DX10 := hid (DX9.out.below b10 DX9.out.lt) | skip); (first | have ly10 := DX10.out.lt | skip); have HB10 : Hid (Below w9.heap.size w9 w10) := below_step (w0 := w9) (by repeat (first | exact Below.refl _ _ | apply Below.drew | apply below_more)) b10; have HP10 := hid (below_step HP9.out HB10.out); have M10 := hid m10; obtain ⟨n10, t10, a10, q10, rfl, -, -, -, -, -⟩ := m10; have lx10 := HB10.out.size; (first | (have y0 := DX10.out.c0; have y1 := DX10.out.c1; have f0 := DX10.out.fz 0; have f1 := DX10.out.fz 1) | skip); obtain ⟨c10_0, c10_1, c10_2, c10_3, c10_4, c10_5⟩ := HKS.out w10 HP10.out)
        | (go_at_call 8; refine (HC0.out _ ?_).mono ?_; (repeat (first | exact Below.refl _ _ | apply Below.drew | apply below_more)); rintro e9 w9 ⟨r9, rfl, m9, b9⟩; (first | have DX9 : Hid (Duo w9 V8.heap.size (.bool false) (.slice none 0 0)) := duo_call b9 | have DX9 : Hid (Duo w9 V8.heap.size (.bool false) (.slice none 0 0)) := duo_call_d b9 | skip); (first | have ly9 := DX9.out.lt | skip); have HB9 : Hid (Below V8.heap.size V8 w9) := below_step (w0 := V8) (by repeat (first | exact Below.refl _ _ | apply Below.drew | apply below_more)) b9; have HP9 := hid (HB9.out); have M9 := hid m9; obtain ⟨n9, t9, a9, q9, rfl, -, -, -, -, -⟩ := m9; have lx9 := HB9.out.size; have Y9_M := hid (Zm.out.now HB9.out); have HC1 := hid (fun (w' : World) (h : Below w9.heap.size w9 w') => mod_z (M9.out.now h).zi (Y9_M.out.now h) HM0.out (by decide) (by decide)); obtain ⟨c9_0, c9_1, c9_2, c9_3, c9_4, c9_5⟩ := HKS.out w9 HP9.out))
    all_goals (go_wp2_with fail; go_meet; first | exact met_set DX10.out M10.out HP10.out (by omega) (by first | omega | (simp only [World.size_alloc]; omega)) | exact met_new M10.out HP10.out (by first | omega | (simp only [World.size_alloc]; omega)))
  case rest =>
  as_aux_lemma =>
  clear cx0 cx1 cy0 cy1 cm0 cm1
  obtain ⟨bkv, nv, xv, av, cv, rfl, rfl, b, gev, ltv, p, m⟩ := hcut
  replace Za := hid (Za.out.now b)
  replace Zb := hid (Zb.out.now b)
  replace Zm := hid (Zm.out.now b)
  replace Zx := hid (Zx.out.now b)
  replace Zsv := hid (Zsv.out.now b)
  replace Zy := hid (Zy.out.now b)
  replace Zu := hid (Zu.out.now b)
  replace G := hid (below_step G.out b)
  have lz9 := (show Below _ _ _ from b).size
  replace Ka : Hid (∀ w', Below wc.heap.size wc w' → w'.cell? ⟨w.heap.size, 0, none⟩ = some (.bool na) ∧ w'.cell? ⟨w.heap.size, 1, none⟩ = some (.slice aa xa.length ca)) := fun w' h => Ka.out w' (below_step b h)
  replace Kb : Hid (∀ w', Below wc.heap.size wc w' → w'.cell? ⟨w.heap.size + 1, 0, none⟩ = some (.bool nb) ∧ w'.cell? ⟨w.heap.size + 1, 1, none⟩ = some (.slice ab xb.length cb)) := fun w' h => Kb.out w' (below_step b h)
  replace Km : Hid (∀ w', Below wc.heap.size wc w' → w'.cell? ⟨w.heap.size + 1 + 1, 0, none⟩ = some (.bool nm) ∧ w'.cell? ⟨w.heap.size + 1 + 1, 1, none⟩ = some (.slice am xm.length cm)) := fun w' h => Km.out w' (below_step b h)
  replace Kx : Hid (∀ w', Below wc.heap.size wc w' → w'.cell? ⟨w1.heap.size, 0, none⟩ = some (.bool nx) ∧ w'.cell? ⟨w1.heap.size, 1, none⟩ = some (.slice ax xx.length cx)) := fun w' h => Kx.out w' (below_step b h)
  replace Ksv : Hid (∀ w', Below wc.heap.size wc w' → w'.cell? ⟨w2.heap.size, 0, none⟩ = some (.bool nsv) ∧ w'.cell? ⟨w2.heap.size, 1, none⟩ = some (.slice asv xsv.length csv)) := fun w' h => Ksv.out w' (below_step b h)
  replace Ky : Hid (∀ w', Below wc.heap.size wc w' → w'.cell? ⟨w4.heap.size, 0, none⟩ = some (.bool ny) ∧ w'.cell? ⟨w4.heap.size, 1, none⟩ = some (.slice ay xy.length cy)) := fun w' h => Ky.out w' (below_step b h)
  replace Ku : Hid (∀ w', Below wc.heap.size wc w' → w'.cell? ⟨bku, 0, none⟩ = some (.bool nu) ∧ w'.cell? ⟨bku, 1, none⟩ = some (.slice au xu.length cu)) := fun w' h => Ku.out w' (below_step b h)
  have Zv := hid m
  have Kv : Hid (∀ w', Below wc.heap.size wc w' → w'.cell? ⟨bkv, 0, none⟩ = some (.bool nv) ∧ w'.cell? ⟨bkv, 1, none⟩ = some (.slice av xv.length cv)) := fun w' h => ⟨(p.below h ltv).c0, (p.below h ltv).c1⟩
  clear b p m
  generalize wc = V10 at *
  go_wp2_with fail
  obtain ⟨ca0, ca1⟩ := Ka.out V10 (Below.refl _ _)
  obtain ⟨cb0, cb1⟩ := Kb.out V10 (Below.refl _ _)
  obtain ⟨cm0, cm1⟩ := Km.out V10 (Below.refl _ _)
  go_cut [17, 18] from 24 (fun s1 s2 wx => MetZ V10 wx s1 s2 ((A + B) % M) (max (max 1048576 1048576 + 1) 1048576 + 1))
  case first =>
    as_aux_lemma =>
    have HKS : Hid (∀ w', Below V10.heap.size V10 w' → w'.cell? ⟨w.heap.size, 0, none⟩ = some (.bool na) ∧ w'.cell? ⟨w.heap.size, 1, none⟩ = some (.slice aa xa.length ca) ∧ w'.cell? ⟨w.heap.size + 1, 0, none⟩ = some (.bool nb) ∧ w'.cell? ⟨w.heap.size + 1, 1, none⟩ = some (.slice ab xb.length cb) ∧ w'.cell? ⟨w.heap.size + 1 + 1, 0, none⟩ = some (.bool nm) ∧ w'.cell? ⟨w.heap.size + 1 + 1, 1, none⟩ = some (.slice am xm.length cm)) := fun w' h => ⟨(Ka.out w' h).1, (Ka.out w' h).2, (Kb.out w' h).1, (Kb.out w' h).2, (Km.out w' h).1, (Km.out w' h).2⟩
    clear G Ka Kb Km Kx Ksv Ky Ku Kv
    clear Zx Zsv Zy Zu Zv
    have HC0 := hid (fun (w' : World) (h : Below V10.heap.size V10 w') => add_z (Za.out.now h) (Zb.out.now h) (by decide) (by decide))
    go_region_held3 (fun w' => w'.cell? ⟨w.heap.size, 0, none⟩ = some (.bool na) ∧ w'.cell? ⟨w.heap.size, 1, none⟩ = some (.slice aa xa.length ca) ∧ w'.cell? ⟨w.heap.size + 1, 0, none⟩ = some (.bool nb) ∧ w'.cell? ⟨w.heap.size + 1, 1, none⟩ = some (.slice ab xb.length cb) ∧ w'.cell? ⟨w.heap.size + 1 + 1, 0, none⟩ = some (.bool nm) ∧ w'.cell? ⟨w.heap.size + 1 + 1, 1, none⟩ = some (.slice am xm.length cm))
      (first
        | ((try dsimp only); refine ⟨?_, ?_, ?_, ?_, ?_, ?_⟩ <;> with_reducible (repeat (refine box_ne (by omega) ?_)) <;> with_reducible assumption)
        | (refine HKS.out _ ?_; repeat (first | with_reducible exact HP12.out | with_reducible exact HP11.out | with_reducible exact Below.refl _ _ | with_reducible apply Below.drew | with_reducible apply below_more)))
      (first
        | (go_at_call 26; refine (HC1.out _ ?_).mono ?_; (repeat (first | exact Below.refl _ _ | apply Below.drew | apply below_more)); rintro e12 w12 ⟨r12, rfl, m12, b12⟩; (first | have DX12 : Hid (Duo w12 w11.heap.size (.bool false) (.slice none 0 0)) := duo_call b12 | have DX12 : Hid (Duo w12 w11.heap.size (.bool false) (.slice none 0 0)) := duo_call_d b12 | have DX12 := hid (DX11.out.below b12 DX11.out.lt) | skip); (first | have ly12 := DX12.out.lt | skip); have HB12 : Hid (Below w11.heap.size w11 w12) := below_step (w0 := w11) (by repeat (first | exact Below.refl _ _ | apply Below.drew | apply below_more)) b12; have HP12 := hid (below_step HP11.out HB12.out); have M12 := hid m12; obtain ⟨n12, t12, a12, q12, rfl, -, -, -, -, -⟩ := m12; have lx12 := HB12.out.size; (first | (have y0 := DX12.out.c0; have y1 := DX12.out.c1; have f0 := DX12.out.fz 0; have f1 := DX12.out.fz 1) | skip); obtain ⟨c12_0, c12_1, c12_2, c12_3, c12_4, c12_5⟩ := HKS.out w12 HP12.out)
        | (go_at_call 9; refine (HC0.out _ ?_).mono ?_; (repeat (first | exact Below.refl _ _ | apply Below.drew | apply below_more)); rintro e11 w11 ⟨r11, rfl, m11, b11⟩; (first | have DX11 : Hid (Duo w11 V10.heap.size (.bool false) (.slice none 0 0)) := duo_call b11 | have DX11 : Hid (Duo w11 V10.heap.size (.bool false) (.slice none 0 0)) := duo_call_d b11 | skip); (first | have ly11 := DX11.out.lt | skip); have HB11 : Hid (Below V10.heap.size V10 w11) := below_step (w0 := V10) (by repeat (first | exact Below.refl _ _ | apply Below.drew | apply below_more)) b11; have HP11 := hid (HB11.out); have M11 := hid m11; obtain ⟨n11, t11, a11, q11, rfl, -, -, -, -, -⟩ := m11; have lx11 := HB11.out.size; have Y11_M := hid (Zm.out.now HB11.out); have HC1 := hid (fun (w' : World) (h : Below w11.heap.size w11 w') => mod_z (M11.out.now h).zi (Y11_M.out.now h) HM0.out (by decide) (by decide)); obtain ⟨c11_0, c11_1, c11_2, c11_3, c11_4, c11_5⟩ := HKS.out w11 HP11.out))
    all_goals (go_wp2_with fail; go_meet; first | exact met_set DX12.out M12.out HP12.out (by omega) (by first | omega | (simp only [World.size_alloc]; omega)) | exact met_new M12.out HP12.out (by first | omega | (simp only [World.size_alloc]; omega)))
  case rest =>
  as_aux_lemma =>
  clear ca0 ca1 cb0 cb1 cm0 cm1
  obtain ⟨bkwv, nwv, xwv, awv, cwv, rfl, rfl, b, gewv, ltwv, p, m⟩ := hcut
  replace Za := hid (Za.out.now b)
  replace Zb := hid (Zb.out.now b)
  replace Zm := hid (Zm.out.now b)
  replace Zx := hid (Zx.out.now b)
  replace Zsv := hid (Zsv.out.now b)
  replace Zy := hid (Zy.out.now b)
  replace Zu := hid (Zu.out.now b)
  replace Zv := hid (Zv.out.now b)
  replace G := hid (below_step G.out b)
  have lz10 := (show Below _ _ _ from b).size
  replace Ka : Hid (∀ w', Below wc.heap.size wc w' → w'.cell? ⟨w.heap.size, 0, none⟩ = some (.bool na) ∧ w'.cell? ⟨w.heap.size, 1, none⟩ = some (.slice aa xa.length ca)) := fun w' h => Ka.out w' (below_step b h)
  replace Kb : Hid (∀ w', Below wc.heap.size wc w' → w'.cell? ⟨w.heap.size + 1, 0, none⟩ = some (.bool nb) ∧ w'.cell? ⟨w.heap.size + 1, 1, none⟩ = some (.slice ab xb.length cb)) := fun w' h => Kb.out w' (below_step b h)
  replace Km : Hid (∀ w', Below wc.heap.size wc w' → w'.cell? ⟨w.heap.size + 1 + 1, 0, none⟩ = some (.bool nm) ∧ w'.cell? ⟨w.heap.size + 1 + 1, 1, none⟩ = some (.slice am xm.length cm)) := fun w' h => Km.out w' (below_step b h)
  replace Kx : Hid (∀ w', Below wc.heap.size wc w' → w'.cell? ⟨w1.heap.size, 0, none⟩ = some (.bool nx) ∧ w'.cell? ⟨w1.heap.size, 1, none⟩ = some (.slice ax xx.length cx)) := fun w' h => Kx.out w' (below_step b h)
  replace Ksv : Hid (∀ w', Below wc.heap.size wc w' → w'.cell? ⟨w2.heap.size, 0, none⟩ = some (.bool nsv) ∧ w'.cell? ⟨w2.heap.size, 1, none⟩ = some (.slice asv xsv.length csv)) := fun w' h => Ksv.out w' (below_step b h)
  replace Ky : Hid (∀ w', Below wc.heap.size wc w' → w'.cell? ⟨w4.heap.size, 0, none⟩ = some (.bool ny) ∧ w'.cell? ⟨w4.heap.size, 1, none⟩ = some (.slice ay xy.length cy)) := fun w' h => Ky.out w' (below_step b h)
  replace Ku : Hid (∀ w', Below wc.heap.size wc w' → w'.cell? ⟨bku, 0, none⟩ = some (.bool nu) ∧ w'.cell? ⟨bku, 1, none⟩ = some (.slice au xu.length cu)) := fun w' h => Ku.out w' (below_step b h)
  replace Kv : Hid (∀ w', Below wc.heap.size wc w' → w'.cell? ⟨bkv, 0, none⟩ = some (.bool nv) ∧ w'.cell? ⟨bkv, 1, none⟩ = some (.slice av xv.length cv)) := fun w' h => Kv.out w' (below_step b h)
  have Zwv := hid m
  have Kwv : Hid (∀ w', Below wc.heap.size wc w' → w'.cell? ⟨bkwv, 0, none⟩ = some (.bool nwv) ∧ w'.cell? ⟨bkwv, 1, none⟩ = some (.slice awv xwv.length cwv)) := fun w' h => ⟨(p.below h ltwv).c0, (p.below h ltwv).c1⟩
  clear b p m
  generalize wc = V12 at *
  go_wp2_with fail
  obtain ⟨cx0, cx1⟩ := Kx.out V12 (Below.refl _ _)
  obtain ⟨cy0, cy1⟩ := Ky.out V12 (Below.refl _ _)
  obtain ⟨cm0, cm1⟩ := Km.out V12 (Below.refl _ _)
  go_cut [19, 20] from 24 (fun s1 s2 wx => MetZ V12 wx s1 s2 ((A % M + B % M) % (-M)) (max (max (max 1048576 1048576 + 1) (max 1048576 1048576 + 1) + 1) 1048576 + 1))
  case first =>
    as_aux_lemma =>
    have HKS : Hid (∀ w', Below V12.heap.size V12 w' → w'.cell? ⟨w1.heap.size, 0, none⟩ = some (.bool nx) ∧ w'.cell? ⟨w1.heap.size, 1, none⟩ = some (.slice ax xx.length cx) ∧ w'.cell? ⟨w4.heap.size, 0, none⟩ = some (.bool ny) ∧ w'.cell? ⟨w4.heap.size, 1, none⟩ = some (.slice ay xy.length cy) ∧ w'.cell? ⟨w.heap.size + 1 + 1, 0, none⟩ = some (.bool nm) ∧ w'.cell? ⟨w.heap.size + 1 + 1, 1, none⟩ = some (.slice am xm.length cm)) := fun w' h => ⟨(Kx.out w' h).1, (Kx.out w' h).2, (Ky.out w' h).1, (Ky.out w' h).2, (Km.out w' h).1, (Km.out w' h).2⟩
    clear G Ka Kb Km Kx Ksv Ky Ku Kv Kwv
    clear Za Zb Zsv Zu Zv Zwv
    have HC0 := hid (fun (w' : World) (h : Below V12.heap.size V12 w') => add_z (Zx.out.now h).zi (Zy.out.now h).zi (by decide) (by decide))
    go_region_held3 (fun w' => w'.cell? ⟨w1.heap.size, 0, none⟩ = some (.bool nx) ∧ w'.cell? ⟨w1.heap.size, 1, none⟩ = some (.slice ax xx.length cx) ∧ w'.cell? ⟨w4.heap.size, 0, none⟩ = some (.bool ny) ∧ w'.cell? ⟨w4.heap.size, 1, none⟩ = some (.slice ay xy.length cy) ∧ w'.cell? ⟨w.heap.size + 1 + 1, 0, none⟩ = some (.bool nm) ∧ w'.cell? ⟨w.heap.size + 1 + 1, 1, none⟩ = some (.slice am xm.length cm))
      (first
        | ((try dsimp only); refine ⟨?_, ?_, ?_, ?_, ?_, ?_⟩ <;> with_reducible (repeat (refine box_ne (by omega) ?_)) <;> with_reducible assumption)
        | (refine HKS.out _ ?_; repeat (first | with_reducible exact HP15.out | with_reducible exact HP14.out | with_reducible exact HP13.out | with_reducible exact Below.refl _ _ | with_reducible apply Below.drew | with_reducible apply below_more)))
      (first
        | (go_at_call 26; refine (HC2.out _ ?_).mono ?_; (repeat (first | exact Below.refl _ _ | apply Below.drew | apply below_more)); rintro e15 w15 ⟨r15, rfl, m15, b15⟩; (first | have DX15 : Hid (Duo w15 w14.heap.size (.bool false) (.slice none 0 0)) := duo_call b15 | have DX15 : Hid (Duo w15 w14.heap.size (.bool false) (.slice none 0 0)) := duo_call_d b15 | have DX15 := hid (DX14.out.below b15 DX14.out.lt) | skip); (first | have ly15 := DX15.out.lt | skip); have HB15 : Hid (Below w14.heap.size w14 w15) := below_step (w0 := w14) (by repeat (first | exact Below.refl _ _ | apply Below.drew | apply below_more)) b15; have HP15 := hid (below_step HP14.out HB15.out); have M15 := hid m15; obtain ⟨n15, t15, a15, q15, rfl, -, -, -, -, -⟩ := m15; have lx15 := HB15.out.size; (first | (have y0 := DX15.out.c0; have y1 := DX15.out.c1; have f0 := DX15.out.fz 0; have f1 := DX15.out.fz 1) | skip); obtain ⟨c15_0, c15_1, c15_2, c15_3, c15_4, c15_5⟩ := HKS.out w15 HP15.out)
        | (go_at_call 11; refine (HC1.out _ ?_).mono ?_; (repeat (first | exact Below.refl _ _ | apply Below.drew | apply below_more)); rintro e14 w14 ⟨r14, rfl, m14, b14⟩; (first | have DX14 : Hid (Duo w14 w13.heap.size (.bool false) (.slice none 0 0)) := duo_call b14 | have DX14 : Hid (Duo w14 w13.heap.size (.bool false) (.slice none 0 0)) := duo_call_d b14 | have DX14 := hid (DX13.out.below b14 DX13.out.lt) | skip); (first | have ly14 := DX14.out.lt | skip); have HB14 : Hid (Below w13.heap.size w13 w14) := below_step (w0 := w13) (by repeat (first | exact Below.refl _ _ | apply Below.drew | apply below_more)) b14; have HP14 := hid (below_step HP13.out HB14.out); have M14 := hid m14; obtain ⟨n14, t14, a14, q14, rfl, -, -, -, -, -⟩ := m14; have lx14 := HB14.out.size; have T14_P := hid (M13.out.now HB14.out); have HC2 := hid (fun (w' : World) (h : Below w14.heap.size w14 w') => mod_z (T14_P.out.now h).zi (M14.out.now h).zi HMN.out (by decide) (by decide)); obtain ⟨c14_0, c14_1, c14_2, c14_3, c14_4, c14_5⟩ := HKS.out w14 HP14.out)
        | (go_at_call 9; refine (HC0.out _ ?_).mono ?_; (repeat (first | exact Below.refl _ _ | apply Below.drew | apply below_more)); rintro e13 w13 ⟨r13, rfl, m13, b13⟩; (first | have DX13 : Hid (Duo w13 V12.heap.size (.bool false) (.slice none 0 0)) := duo_call b13 | have DX13 : Hid (Duo w13 V12.heap.size (.bool false) (.slice none 0 0)) := duo_call_d b13 | skip); (first | have ly13 := DX13.out.lt | skip); have HB13 : Hid (Below V12.heap.size V12 w13) := below_step (w0 := V12) (by repeat (first | exact Below.refl _ _ | apply Below.drew | apply below_more)) b13; have HP13 := hid (HB13.out); have M13 := hid m13; obtain ⟨n13, t13, a13, q13, rfl, -, -, -, -, -⟩ := m13; have lx13 := HB13.out.size; have Y13_M := hid (Zm.out.now HB13.out); have HC1 := hid (fun (w' : World) (h : Below w13.heap.size w13 w') => neg_z (Y13_M.out.now h)); obtain ⟨c13_0, c13_1, c13_2, c13_3, c13_4, c13_5⟩ := HKS.out w13 HP13.out))
    all_goals (go_wp2_with fail; go_meet; first | exact met_set DX15.out M15.out HP15.out (by omega) (by first | omega | (simp only [World.size_alloc]; omega)) | exact met_new M15.out HP15.out (by first | omega | (simp only [World.size_alloc]; omega)))
  case rest =>
  as_aux_lemma =>
  clear cx0 cx1 cy0 cy1 cm0 cm1
  obtain ⟨bkzv, nzv, xzv, azv, czv, rfl, rfl, b, gezv, ltzv, p, m⟩ := hcut
  replace Za := hid (Za.out.now b)
  replace Zb := hid (Zb.out.now b)
  replace Zm := hid (Zm.out.now b)
  replace Zx := hid (Zx.out.now b)
  replace Zsv := hid (Zsv.out.now b)
  replace Zy := hid (Zy.out.now b)
  replace Zu := hid (Zu.out.now b)
  replace Zv := hid (Zv.out.now b)
  replace Zwv := hid (Zwv.out.now b)
  replace G := hid (below_step G.out b)
  have lz11 := (show Below _ _ _ from b).size
  replace Ka : Hid (∀ w', Below wc.heap.size wc w' → w'.cell? ⟨w.heap.size, 0, none⟩ = some (.bool na) ∧ w'.cell? ⟨w.heap.size, 1, none⟩ = some (.slice aa xa.length ca)) := fun w' h => Ka.out w' (below_step b h)
  replace Kb : Hid (∀ w', Below wc.heap.size wc w' → w'.cell? ⟨w.heap.size + 1, 0, none⟩ = some (.bool nb) ∧ w'.cell? ⟨w.heap.size + 1, 1, none⟩ = some (.slice ab xb.length cb)) := fun w' h => Kb.out w' (below_step b h)
  replace Km : Hid (∀ w', Below wc.heap.size wc w' → w'.cell? ⟨w.heap.size + 1 + 1, 0, none⟩ = some (.bool nm) ∧ w'.cell? ⟨w.heap.size + 1 + 1, 1, none⟩ = some (.slice am xm.length cm)) := fun w' h => Km.out w' (below_step b h)
  replace Kx : Hid (∀ w', Below wc.heap.size wc w' → w'.cell? ⟨w1.heap.size, 0, none⟩ = some (.bool nx) ∧ w'.cell? ⟨w1.heap.size, 1, none⟩ = some (.slice ax xx.length cx)) := fun w' h => Kx.out w' (below_step b h)
  replace Ksv : Hid (∀ w', Below wc.heap.size wc w' → w'.cell? ⟨w2.heap.size, 0, none⟩ = some (.bool nsv) ∧ w'.cell? ⟨w2.heap.size, 1, none⟩ = some (.slice asv xsv.length csv)) := fun w' h => Ksv.out w' (below_step b h)
  replace Ky : Hid (∀ w', Below wc.heap.size wc w' → w'.cell? ⟨w4.heap.size, 0, none⟩ = some (.bool ny) ∧ w'.cell? ⟨w4.heap.size, 1, none⟩ = some (.slice ay xy.length cy)) := fun w' h => Ky.out w' (below_step b h)
  replace Ku : Hid (∀ w', Below wc.heap.size wc w' → w'.cell? ⟨bku, 0, none⟩ = some (.bool nu) ∧ w'.cell? ⟨bku, 1, none⟩ = some (.slice au xu.length cu)) := fun w' h => Ku.out w' (below_step b h)
  replace Kv : Hid (∀ w', Below wc.heap.size wc w' → w'.cell? ⟨bkv, 0, none⟩ = some (.bool nv) ∧ w'.cell? ⟨bkv, 1, none⟩ = some (.slice av xv.length cv)) := fun w' h => Kv.out w' (below_step b h)
  replace Kwv : Hid (∀ w', Below wc.heap.size wc w' → w'.cell? ⟨bkwv, 0, none⟩ = some (.bool nwv) ∧ w'.cell? ⟨bkwv, 1, none⟩ = some (.slice awv xwv.length cwv)) := fun w' h => Kwv.out w' (below_step b h)
  have Zzv := hid m
  have Kzv : Hid (∀ w', Below wc.heap.size wc w' → w'.cell? ⟨bkzv, 0, none⟩ = some (.bool nzv) ∧ w'.cell? ⟨bkzv, 1, none⟩ = some (.slice azv xzv.length czv)) := fun w' h => ⟨(p.below h ltzv).c0, (p.below h ltzv).c1⟩
  clear b p m
  generalize wc = V15 at *
  go_wp2_with fail
  obtain ⟨cb0, cb1⟩ := Kb.out V15 (Below.refl _ _)
  obtain ⟨cm0, cm1⟩ := Km.out V15 (Below.refl _ _)
  obtain ⟨ca0, ca1⟩ := Ka.out V15 (Below.refl _ _)
  go_cut [21, 22] from 24 (fun s1 s2 wx => MetZ V15 wx s1 s2 ((B * M + A) % M) (max (max (1048576 + 1048576) 1048576 + 1) 1048576 + 1))
  case first =>
    as_aux_lemma =>
    have HKS : Hid (∀ w', Below V15.heap.size V15 w' → w'.cell? ⟨w.heap.size + 1, 0, none⟩ = some (.bool nb) ∧ w'.cell? ⟨w.heap.size + 1, 1, none⟩ = some (.slice ab xb.length cb) ∧ w'.cell? ⟨w.heap.size + 1 + 1, 0, none⟩ = some (.bool nm) ∧ w'.cell? ⟨w.heap.size + 1 + 1, 1, none⟩ = some (.slice am xm.length cm) ∧ w'.cell? ⟨w.heap.size, 0, none⟩ = some (.bool na) ∧ w'.cell? ⟨w.heap.size, 1, none⟩ = some (.slice aa xa.length ca)) := fun w' h => ⟨(Kb.out w' h).1, (Kb.out w' h).2, (Km.out w' h).1, (Km.out w' h).2, (Ka.out w' h).1, (Ka.out w' h).2⟩
    clear G Ka Kb Km Kx Ksv Ky Ku Kv Kwv Kzv
    clear Zx Zsv Zy Zu Zv Zwv Zzv
    have HC0 := hid (fun (w' : World) (h : Below V15.heap.size V15 w') => mulAdd_z (Zb.out.now h) (Zm.out.now h) (Za.out.now h) (by decide) (by decide))
    go_region_held3 (fun w' => w'.cell? ⟨w.heap.size + 1, 0, none⟩ = some (.bool nb) ∧ w'.cell? ⟨w.heap.size + 1, 1, none⟩ = some (.slice ab xb.length cb) ∧ w'.cell? ⟨w.heap.size + 1 + 1, 0, none⟩ = some (.bool nm) ∧ w'.cell? ⟨w.heap.size + 1 + 1, 1, none⟩ = some (.slice am xm.length cm) ∧ w'.cell? ⟨w.heap.size, 0, none⟩ = some (.bool na) ∧ w'.cell? ⟨w.heap.size, 1, none⟩ = some (.slice aa xa.length ca))
      (first
        | ((try dsimp only); refine ⟨?_, ?_, ?_, ?_, ?_, ?_⟩ <;> with_reducible (repeat (refine box_ne (by omega) ?_)) <;> with_reducible assumption)
        | (refine HKS.out _ ?_; repeat (first | with_reducible exact HP17.out | with_reducible exact HP16.out | with_reducible exact Below.refl _ _ | with_reducible apply Below.drew | with_reducible apply below_more)))
      (first
        | (go_at_call 26; refine (HC1.out _ ?_).mono ?_; (repeat (first | exact Below.refl _ _ | apply Below.drew | apply below_more)); rintro e17 w17 ⟨r17, rfl, m17, b17⟩; (first | have DX17 : Hid (Duo w17 w16.heap.size (.bool false) (.slice none 0 0)) := duo_call b17 | have DX17 : Hid (Duo w17 w16.heap.size (.bool false) (.slice none 0 0)) := duo_call_d b17 | have DX17 := hid (DX16.out.below b17 DX16.out.lt) | skip); (first | have ly17 := DX17.out.lt | skip); have HB17 : Hid (Below w16.heap.size w16 w17) := below_step (w0 := w16) (by repeat (first | exact Below.refl _ _ | apply Below.drew | apply below_more)) b17; have HP17 := hid (below_step HP16.out HB17.out); have M17 := hid m17; obtain ⟨n17, t17, a17, q17, rfl, -, -, -, -, -⟩ := m17; have lx17 := HB17.out.size; (first | (have y0 := DX17.out.c0; have y1 := DX17.out.c1; have f0 := DX17.out.fz 0; have f1 := DX17.out.fz 1) | skip); obtain ⟨c17_0, c17_1, c17_2, c17_3, c17_4, c17_5⟩ := HKS.out w17 HP17.out)
        | (go_at_call 14; refine (HC0.out _ ?_).mono ?_; (repeat (first | exact Below.refl _ _ | apply Below.drew | apply below_more)); rintro e16 w16 ⟨r16, rfl, m16, b16⟩; (first | have DX16 : Hid (Duo w16 V15.heap.size (.bool false) (.slice none 0 0)) := duo_call b16 | have DX16 : Hid (Duo w16 V15.heap.size (.bool false) (.slice none 0 0)) := duo_call_d b16 | skip); (first | have ly16 := DX16.out.lt | skip); have HB16 : Hid (Below V15.heap.size V15 w16) := below_step (w0 := V15) (by repeat (first | exact Below.refl _ _ | apply Below.drew | apply below_more)) b16; have HP16 := hid (HB16.out); have M16 := hid m16; obtain ⟨n16, t16, a16, q16, rfl, -, -, -, -, -⟩ := m16; have lx16 := HB16.out.size; have Y16_M := hid (Zm.out.now HB16.out); have HC1 := hid (fun (w' : World) (h : Below w16.heap.size w16 w') => mod_z (M16.out.now h).zi (Y16_M.out.now h) HM0.out (by decide) (by decide)); obtain ⟨c16_0, c16_1, c16_2, c16_3, c16_4, c16_5⟩ := HKS.out w16 HP16.out))
    all_goals (go_wp2_with fail; go_meet; first | exact met_set DX17.out M17.out HP17.out (by omega) (by first | omega | (simp only [World.size_alloc]; omega)) | exact met_new M17.out HP17.out (by first | omega | (simp only [World.size_alloc]; omega)))
  case rest =>
  as_aux_lemma =>
  clear cb0 cb1 cm0 cm1 ca0 ca1
  obtain ⟨bkov, nov, xov, aov, cov, rfl, rfl, b, geov, ltov, p, m⟩ := hcut
  replace Za := hid (Za.out.now b)
  replace Zb := hid (Zb.out.now b)
  replace Zm := hid (Zm.out.now b)
  replace Zx := hid (Zx.out.now b)
  replace Zsv := hid (Zsv.out.now b)
  replace Zy := hid (Zy.out.now b)
  replace Zu := hid (Zu.out.now b)
  replace Zv := hid (Zv.out.now b)
  replace Zwv := hid (Zwv.out.now b)
  replace Zzv := hid (Zzv.out.now b)
  replace G := hid (below_step G.out b)
  have lz12 := (show Below _ _ _ from b).size
  replace Ka : Hid (∀ w', Below wc.heap.size wc w' → w'.cell? ⟨w.heap.size, 0, none⟩ = some (.bool na) ∧ w'.cell? ⟨w.heap.size, 1, none⟩ = some (.slice aa xa.length ca)) := fun w' h => Ka.out w' (below_step b h)
  replace Kb : Hid (∀ w', Below wc.heap.size wc w' → w'.cell? ⟨w.heap.size + 1, 0, none⟩ = some (.bool nb) ∧ w'.cell? ⟨w.heap.size + 1, 1, none⟩ = some (.slice ab xb.length cb)) := fun w' h => Kb.out w' (below_step b h)
  replace Km : Hid (∀ w', Below wc.heap.size wc w' → w'.cell? ⟨w.heap.size + 1 + 1, 0, none⟩ = some (.bool nm) ∧ w'.cell? ⟨w.heap.size + 1 + 1, 1, none⟩ = some (.slice am xm.length cm)) := fun w' h => Km.out w' (below_step b h)
  replace Kx : Hid (∀ w', Below wc.heap.size wc w' → w'.cell? ⟨w1.heap.size, 0, none⟩ = some (.bool nx) ∧ w'.cell? ⟨w1.heap.size, 1, none⟩ = some (.slice ax xx.length cx)) := fun w' h => Kx.out w' (below_step b h)
  replace Ksv : Hid (∀ w', Below wc.heap.size wc w' → w'.cell? ⟨w2.heap.size, 0, none⟩ = some (.bool nsv) ∧ w'.cell? ⟨w2.heap.size, 1, none⟩ = some (.slice asv xsv.length csv)) := fun w' h => Ksv.out w' (below_step b h)
  replace Ky : Hid (∀ w', Below wc.heap.size wc w' → w'.cell? ⟨w4.heap.size, 0, none⟩ = some (.bool ny) ∧ w'.cell? ⟨w4.heap.size, 1, none⟩ = some (.slice ay xy.length cy)) := fun w' h => Ky.out w' (below_step b h)
  replace Ku : Hid (∀ w', Below wc.heap.size wc w' → w'.cell? ⟨bku, 0, none⟩ = some (.bool nu) ∧ w'.cell? ⟨bku, 1, none⟩ = some (.slice au xu.length cu)) := fun w' h => Ku.out w' (below_step b h)
  replace Kv : Hid (∀ w', Below wc.heap.size wc w' → w'.cell? ⟨bkv, 0, none⟩ = some (.bool nv) ∧ w'.cell? ⟨bkv, 1, none⟩ = some (.slice av xv.length cv)) := fun w' h => Kv.out w' (below_step b h)
  replace Kwv : Hid (∀ w', Below wc.heap.size wc w' → w'.cell? ⟨bkwv, 0, none⟩ = some (.bool nwv) ∧ w'.cell? ⟨bkwv, 1, none⟩ = some (.slice awv xwv.length cwv)) := fun w' h => Kwv.out w' (below_step b h)
  replace Kzv : Hid (∀ w', Below wc.heap.size wc w' → w'.cell? ⟨bkzv, 0, none⟩ = some (.bool nzv) ∧ w'.cell? ⟨bkzv, 1, none⟩ = some (.slice azv xzv.length czv)) := fun w' h => Kzv.out w' (below_step b h)
  have Zov := hid m
  have Kov : Hid (∀ w', Below wc.heap.size wc w' → w'.cell? ⟨bkov, 0, none⟩ = some (.bool nov) ∧ w'.cell? ⟨bkov, 1, none⟩ = some (.slice aov xov.length cov)) := fun w' h => ⟨(p.below h ltov).c0, (p.below h ltov).c1⟩
  clear b p m
  generalize wc = V17 at *
  obtain ⟨cu0, cu1⟩ := Ku.out V17 (Below.refl _ _)
  obtain ⟨cv0, cv1⟩ := Kv.out V17 (Below.refl _ _)
  go_wp2_with fail
  clear cu0 cu1 cv0 cv1
  refine (alike_yes (Zu.out) (Zv.out) F1.out).mono ?_
  rintro e w18 ⟨rfl, b⟩
  replace Za := hid (Za.out.now b)
  replace Zb := hid (Zb.out.now b)
  replace Zm := hid (Zm.out.now b)
  replace Zx := hid (Zx.out.now b)
  replace Zsv := hid (Zsv.out.now b)
  replace Zy := hid (Zy.out.now b)
  replace Zu := hid (Zu.out.now b)
  replace Zv := hid (Zv.out.now b)
  replace Zwv := hid (Zwv.out.now b)
  replace Zzv := hid (Zzv.out.now b)
  replace Zov := hid (Zov.out.now b)
  replace G := hid (below_step G.out b)
  have lz13 := (show Below _ _ _ from b).size
  replace Ka : Hid (∀ w', Below w18.heap.size w18 w' → w'.cell? ⟨w.heap.size, 0, none⟩ = some (.bool na) ∧ w'.cell? ⟨w.heap.size, 1, none⟩ = some (.slice aa xa.length ca)) := fun w' h => Ka.out w' (below_step b h)
  replace Kb : Hid (∀ w', Below w18.heap.size w18 w' → w'.cell? ⟨w.heap.size + 1, 0, none⟩ = some (.bool nb) ∧ w'.cell? ⟨w.heap.size + 1, 1, none⟩ = some (.slice ab xb.length cb)) := fun w' h => Kb.out w' (below_step b h)
  replace Km : Hid (∀ w', Below w18.heap.size w18 w' → w'.cell? ⟨w.heap.size + 1 + 1, 0, none⟩ = some (.bool nm) ∧ w'.cell? ⟨w.heap.size + 1 + 1, 1, none⟩ = some (.slice am xm.length cm)) := fun w' h => Km.out w' (below_step b h)
  replace Kx : Hid (∀ w', Below w18.heap.size w18 w' → w'.cell? ⟨w1.heap.size, 0, none⟩ = some (.bool nx) ∧ w'.cell? ⟨w1.heap.size, 1, none⟩ = some (.slice ax xx.length cx)) := fun w' h => Kx.out w' (below_step b h)
  replace Ksv : Hid (∀ w', Below w18.heap.size w18 w' → w'.cell? ⟨w2.heap.size, 0, none⟩ = some (.bool nsv) ∧ w'.cell? ⟨w2.heap.size, 1, none⟩ = some (.slice asv xsv.length csv)) := fun w' h => Ksv.out w' (below_step b h)
  replace Ky : Hid (∀ w', Below w18.heap.size w18 w' → w'.cell? ⟨w4.heap.size, 0, none⟩ = some (.bool ny) ∧ w'.cell? ⟨w4.heap.size, 1, none⟩ = some (.slice ay xy.length cy)) := fun w' h => Ky.out w' (below_step b h)
  replace Ku : Hid (∀ w', Below w18.heap.size w18 w' → w'.cell? ⟨bku, 0, none⟩ = some (.bool nu) ∧ w'.cell? ⟨bku, 1, none⟩ = some (.slice au xu.length cu)) := fun w' h => Ku.out w' (below_step b h)
  replace Kv : Hid (∀ w', Below w18.heap.size w18 w' → w'.cell? ⟨bkv, 0, none⟩ = some (.bool nv) ∧ w'.cell? ⟨bkv, 1, none⟩ = some (.slice av xv.length cv)) := fun w' h => Kv.out w' (below_step b h)
  replace Kwv : Hid (∀ w', Below w18.heap.size w18 w' → w'.cell? ⟨bkwv, 0, none⟩ = some (.bool nwv) ∧ w'.cell? ⟨bkwv, 1, none⟩ = some (.slice awv xwv.length cwv)) := fun w' h => Kwv.out w' (below_step b h)
  replace Kzv : Hid (∀ w', Below w18.heap.size w18 w' → w'.cell? ⟨bkzv, 0, none⟩ = some (.bool nzv) ∧ w'.cell? ⟨bkzv, 1, none⟩ = some (.slice azv xzv.length czv)) := fun w' h => Kzv.out w' (below_step b h)
  replace Kov : Hid (∀ w', Below w18.heap.size w18 w' → w'.cell? ⟨bkov, 0, none⟩ = some (.bool nov) ∧ w'.cell? ⟨bkov, 1, none⟩ = some (.slice aov xov.length cov)) := fun w' h => Kov.out w' (below_step b h)
  clear b
  obtain ⟨cwv0, cwv1⟩ := Kwv.out w18 (Below.refl _ _)
  obtain ⟨czv0, czv1⟩ := Kzv.out w18 (Below.refl _ _)
  go_wp2_with fail
  clear cwv0 cwv1 czv0 czv1
  refine (alike_yes (Zwv.out) (Zzv.out) F2.out).mono ?_
  rintro e w19 ⟨rfl, b⟩
  replace Za := hid (Za.out.now b)
  replace Zb := hid (Zb.out.now b)
  replace Zm := hid (Zm.out.now b)
  replace Zx := hid (Zx.out.now b)
  replace Zsv := hid (Zsv.out.now b)
  replace Zy := hid (Zy.out.now b)
  replace Zu := hid (Zu.out.now b)
  replace Zv := hid (Zv.out.now b)
  replace Zwv := hid (Zwv.out.now b)
  replace Zzv := hid (Zzv.out.now b)
  replace Zov := hid (Zov.out.now b)
  replace G := hid (below_step G.out b)
  have lz14 := (show Below _ _ _ from b).size
  replace Ka : Hid (∀ w', Below w19.heap.size w19 w' → w'.cell? ⟨w.heap.size, 0, none⟩ = some (.bool na) ∧ w'.cell? ⟨w.heap.size, 1, none⟩ = some (.slice aa xa.length ca)) := fun w' h => Ka.out w' (below_step b h)
  replace Kb : Hid (∀ w', Below w19.heap.size w19 w' → w'.cell? ⟨w.heap.size + 1, 0, none⟩ = some (.bool nb) ∧ w'.cell? ⟨w.heap.size + 1, 1, none⟩ = some (.slice ab xb.length cb)) := fun w' h => Kb.out w' (below_step b h)
  replace Km : Hid (∀ w', Below w19.heap.size w19 w' → w'.cell? ⟨w.heap.size + 1 + 1, 0, none⟩ = some (.bool nm) ∧ w'.cell? ⟨w.heap.size + 1 + 1, 1, none⟩ = some (.slice am xm.length cm)) := fun w' h => Km.out w' (below_step b h)
  replace Kx : Hid (∀ w', Below w19.heap.size w19 w' → w'.cell? ⟨w1.heap.size, 0, none⟩ = some (.bool nx) ∧ w'.cell? ⟨w1.heap.size, 1, none⟩ = some (.slice ax xx.length cx)) := fun w' h => Kx.out w' (below_step b h)
  replace Ksv : Hid (∀ w', Below w19.heap.size w19 w' → w'.cell? ⟨w2.heap.size, 0, none⟩ = some (.bool nsv) ∧ w'.cell? ⟨w2.heap.size, 1, none⟩ = some (.slice asv xsv.length csv)) := fun w' h => Ksv.out w' (below_step b h)
  replace Ky : Hid (∀ w', Below w19.heap.size w19 w' → w'.cell? ⟨w4.heap.size, 0, none⟩ = some (.bool ny) ∧ w'.cell? ⟨w4.heap.size, 1, none⟩ = some (.slice ay xy.length cy)) := fun w' h => Ky.out w' (below_step b h)
  replace Ku : Hid (∀ w', Below w19.heap.size w19 w' → w'.cell? ⟨bku, 0, none⟩ = some (.bool nu) ∧ w'.cell? ⟨bku, 1, none⟩ = some (.slice au xu.length cu)) := fun w' h => Ku.out w' (below_step b h)
  replace Kv : Hid (∀ w', Below w19.heap.size w19 w' → w'.cell? ⟨bkv, 0, none⟩ = some (.bool nv) ∧ w'.cell? ⟨bkv, 1, none⟩ = some (.slice av xv.length cv)) := fun w' h => Kv.out w' (below_step b h)
  replace Kwv : Hid (∀ w', Below w19.heap.size w19 w' → w'.cell? ⟨bkwv, 0, none⟩ = some (.bool nwv) ∧ w'.cell? ⟨bkwv, 1, none⟩ = some (.slice awv xwv.length cwv)) := fun w' h => Kwv.out w' (below_step b h)
  replace Kzv : Hid (∀ w', Below w19.heap.size w19 w' → w'.cell? ⟨bkzv, 0, none⟩ = some (.bool nzv) ∧ w'.cell? ⟨bkzv, 1, none⟩ = some (.slice azv xzv.length czv)) := fun w' h => Kzv.out w' (below_step b h)
  replace Kov : Hid (∀ w', Below w19.heap.size w19 w' → w'.cell? ⟨bkov, 0, none⟩ = some (.bool nov) ∧ w'.cell? ⟨bkov, 1, none⟩ = some (.slice aov xov.length cov)) := fun w' h => Kov.out w' (below_step b h)
  clear b
  obtain ⟨cov0, cov1⟩ := Kov.out w19 (Below.refl _ _)
  obtain ⟨cx0, cx1⟩ := Kx.out w19 (Below.refl _ _)
  go_wp2_with fail
  clear cov0 cov1 cx0 cx1
  refine (alike_yes (Zov.out) (Zx.out) F3.out).mono ?_
  rintro e w20 ⟨rfl, b⟩
  replace Za := hid (Za.out.now b)
  replace Zb := hid (Zb.out.now b)
  replace Zm := hid (Zm.out.now b)
  replace Zx := hid (Zx.out.now b)
  replace Zsv := hid (Zsv.out.now b)
  replace Zy := hid (Zy.out.now b)
  replace Zu := hid (Zu.out.now b)
  replace Zv := hid (Zv.out.now b)
  replace Zwv := hid (Zwv.out.now b)
  replace Zzv := hid (Zzv.out.now b)
  replace Zov := hid (Zov.out.now b)
  replace G := hid (below_step G.out b)
  have lz15 := (show Below _ _ _ from b).size
  replace Ka : Hid (∀ w', Below w20.heap.size w20 w' → w'.cell? ⟨w.heap.size, 0, none⟩ = some (.bool na) ∧ w'.cell? ⟨w.heap.size, 1, none⟩ = some (.slice aa xa.length ca)) := fun w' h => Ka.out w' (below_step b h)
  replace Kb : Hid (∀ w', Below w20.heap.size w20 w' → w'.cell? ⟨w.heap.size + 1, 0, none⟩ = some (.bool nb) ∧ w'.cell? ⟨w.heap.size + 1, 1, none⟩ = some (.slice ab xb.length cb)) := fun w' h => Kb.out w' (below_step b h)
  replace Km : Hid (∀ w', Below w20.heap.size w20 w' → w'.cell? ⟨w.heap.size + 1 + 1, 0, none⟩ = some (.bool nm) ∧ w'.cell? ⟨w.heap.size + 1 + 1, 1, none⟩ = some (.slice am xm.length cm)) := fun w' h => Km.out w' (below_step b h)
  replace Kx : Hid (∀ w', Below w20.heap.size w20 w' → w'.cell? ⟨w1.heap.size, 0, none⟩ = some (.bool nx) ∧ w'.cell? ⟨w1.heap.size, 1, none⟩ = some (.slice ax xx.length cx)) := fun w' h => Kx.out w' (below_step b h)
  replace Ksv : Hid (∀ w', Below w20.heap.size w20 w' → w'.cell? ⟨w2.heap.size, 0, none⟩ = some (.bool nsv) ∧ w'.cell? ⟨w2.heap.size, 1, none⟩ = some (.slice asv xsv.length csv)) := fun w' h => Ksv.out w' (below_step b h)
  replace Ky : Hid (∀ w', Below w20.heap.size w20 w' → w'.cell? ⟨w4.heap.size, 0, none⟩ = some (.bool ny) ∧ w'.cell? ⟨w4.heap.size, 1, none⟩ = some (.slice ay xy.length cy)) := fun w' h => Ky.out w' (below_step b h)
  replace Ku : Hid (∀ w', Below w20.heap.size w20 w' → w'.cell? ⟨bku, 0, none⟩ = some (.bool nu) ∧ w'.cell? ⟨bku, 1, none⟩ = some (.slice au xu.length cu)) := fun w' h => Ku.out w' (below_step b h)
  replace Kv : Hid (∀ w', Below w20.heap.size w20 w' → w'.cell? ⟨bkv, 0, none⟩ = some (.bool nv) ∧ w'.cell? ⟨bkv, 1, none⟩ = some (.slice av xv.length cv)) := fun w' h => Kv.out w' (below_step b h)
  replace Kwv : Hid (∀ w', Below w20.heap.size w20 w' → w'.cell? ⟨bkwv, 0, none⟩ = some (.bool nwv) ∧ w'.cell? ⟨bkwv, 1, none⟩ = some (.slice awv xwv.length cwv)) := fun w' h => Kwv.out w' (below_step b h)
  replace Kzv : Hid (∀ w', Below w20.heap.size w20 w' → w'.cell? ⟨bkzv, 0, none⟩ = some (.bool nzv) ∧ w'.cell? ⟨bkzv, 1, none⟩ = some (.slice azv xzv.length czv)) := fun w' h => Kzv.out w' (below_step b h)
  replace Kov : Hid (∀ w', Below w20.heap.size w20 w' → w'.cell? ⟨bkov, 0, none⟩ = some (.bool nov) ∧ w'.cell? ⟨bkov, 1, none⟩ = some (.slice aov xov.length cov)) := fun w' h => Kov.out w' (below_step b h)
  clear b
  go_wp2_with fail
  obtain ⟨cx0, cx1⟩ := Kx.out w20 (Below.refl _ _)
  obtain ⟨cm0, cm1⟩ := Km.out w20 (Below.refl _ _)
  have HKS : Hid (∀ w', Below w20.heap.size w20 w' → w'.cell? ⟨w1.heap.size, 0, none⟩ = some (.bool nx) ∧ w'.cell? ⟨w1.heap.size, 1, none⟩ = some (.slice ax xx.length cx) ∧ w'.cell? ⟨w.heap.size + 1 + 1, 0, none⟩ = some (.bool nm) ∧ w'.cell? ⟨w.heap.size + 1 + 1, 1, none⟩ = some (.slice am xm.length cm)) := fun w' h => ⟨(Kx.out w' h).1, (Kx.out w' h).2, (Km.out w' h).1, (Km.out w' h).2⟩
  have HC0 := hid (fun (w' : World) (h : Below w20.heap.size w20 w') => add_z (Zx.out.now h).zi (Zx.out.now h).zi (by omega) (by omega))
  go_region_held3 (fun w' => w'.cell? ⟨w1.heap.size, 0, none⟩ = some (.bool nx) ∧ w'.cell? ⟨w1.heap.size, 1, none⟩ = some (.slice ax xx.length cx) ∧ w'.cell? ⟨w.heap.size + 1 + 1, 0, none⟩ = some (.bool nm) ∧ w'.cell? ⟨w.heap.size + 1 + 1, 1, none⟩ = some (.slice am xm.length cm))
    (first
      | ((try dsimp only); refine ⟨?_, ?_, ?_, ?_⟩ <;> with_reducible assumption)
      | (refine HKS.out _ ?_; repeat (first | with_reducible exact HP23.out | with_reducible exact HP22.out | with_reducible exact HP21.out | with_reducible exact Below.refl _ _ | with_reducible apply Below.drew | with_reducible apply below_more)))
    (first
      | (go_at_call 24; refine (HC2.out _ ?_).mono ?_; (repeat (first | exact Below.refl _ _ | apply Below.drew | apply below_more)); rintro e23 w23 ⟨rfl, b23⟩; have HB23 : Hid (Below w22.heap.size w22 w23) := below_step (w0 := w22) (by repeat (first | exact Below.refl _ _ | apply Below.drew | apply below_more)) b23; have HP23 := hid (below_step HP22.out HB23.out); obtain ⟨c23_0, c23_1, c23_2, c23_3⟩ := HKS.out w23 HP23.out)
      | (go_at_call 25; refine (HC1.out _ ?_).mono ?_; (repeat (first | exact Below.refl _ _ | apply Below.drew | apply below_more)); rintro e22 w22 ⟨r22, rfl, m22, b22⟩; have HB22 : Hid (Below w21.heap.size w21 w22) := below_step (w0 := w21) (by repeat (first | exact Below.refl _ _ | apply Below.drew | apply below_more)) b22; have HP22 := hid (below_step HP21.out HB22.out); have M22 := hid m22; obtain ⟨n22, t22, a22, q22, rfl, -, -, -, -, -⟩ := m22; have Y22_P := hid (M21.out.now HB22.out); have HC2 := hid (fun (w' : World) (h : Below w22.heap.size w22 w') => EC.out _ _ _ _ _ (Y22_P.out.now h).zi (M22.out.now h).zi); obtain ⟨c22_0, c22_1, c22_2, c22_3⟩ := HKS.out w22 HP22.out)
      | (go_at_call 9; refine (HC0.out _ ?_).mono ?_; (repeat (first | exact Below.refl _ _ | apply Below.drew | apply below_more)); rintro e21 w21 ⟨r21, rfl, m21, b21⟩; have HB21 : Hid (Below w20.heap.size w20 w21) := below_step (w0 := w20) (by repeat (first | exact Below.refl _ _ | apply Below.drew | apply below_more)) b21; have HP21 := hid (HB21.out); have M21 := hid m21; obtain ⟨n21, t21, a21, q21, rfl, -, -, -, -, -⟩ := m21; have Y21_M := hid (Zm.out.now HB21.out); have HC1 := hid (fun (w' : World) (h : Below w21.heap.size w21 w') => abs_z (Y21_M.out.now h)); obtain ⟨c21_0, c21_1, c21_2, c21_3⟩ := HKS.out w21 HP21.out))
  clear c21_0 c21_1 c21_2 c21_3 c22_0 c22_1 c22_2 c22_3 c23_0 c23_1 c23_2 c23_3 HKS
  clear cx0 cx1 cm0 cm1
  have b := HP23.out
  replace Za := hid (Za.out.now b)
  replace Zb := hid (Zb.out.now b)
  replace Zm := hid (Zm.out.now b)
  replace Zx := hid (Zx.out.now b)
  replace Zsv := hid (Zsv.out.now b)
  replace Zy := hid (Zy.out.now b)
  replace Zu := hid (Zu.out.now b)
  replace Zv := hid (Zv.out.now b)
  replace Zwv := hid (Zwv.out.now b)
  replace Zzv := hid (Zzv.out.now b)
  replace Zov := hid (Zov.out.now b)
  replace G := hid (below_step G.out b)
  have lz16 := (show Below _ _ _ from b).size
  replace Ka : Hid (∀ w', Below w23.heap.size w23 w' → w'.cell? ⟨w.heap.size, 0, none⟩ = some (.bool na) ∧ w'.cell? ⟨w.heap.size, 1, none⟩ = some (.slice aa xa.length ca)) := fun w' h => Ka.out w' (below_step b h)
  replace Kb : Hid (∀ w', Below w23.heap.size w23 w' → w'.cell? ⟨w.heap.size + 1, 0, none⟩ = some (.bool nb) ∧ w'.cell? ⟨w.heap.size + 1, 1, none⟩ = some (.slice ab xb.length cb)) := fun w' h => Kb.out w' (below_step b h)
  replace Km : Hid (∀ w', Below w23.heap.size w23 w' → w'.cell? ⟨w.heap.size + 1 + 1, 0, none⟩ = some (.bool nm) ∧ w'.cell? ⟨w.heap.size + 1 + 1, 1, none⟩ = some (.slice am xm.length cm)) := fun w' h => Km.out w' (below_step b h)
  replace Kx : Hid (∀ w', Below w23.heap.size w23 w' → w'.cell? ⟨w1.heap.size, 0, none⟩ = some (.bool nx) ∧ w'.cell? ⟨w1.heap.size, 1, none⟩ = some (.slice ax xx.length cx)) := fun w' h => Kx.out w' (below_step b h)
  replace Ksv : Hid (∀ w', Below w23.heap.size w23 w' → w'.cell? ⟨w2.heap.size, 0, none⟩ = some (.bool nsv) ∧ w'.cell? ⟨w2.heap.size, 1, none⟩ = some (.slice asv xsv.length csv)) := fun w' h => Ksv.out w' (below_step b h)
  replace Ky : Hid (∀ w', Below w23.heap.size w23 w' → w'.cell? ⟨w4.heap.size, 0, none⟩ = some (.bool ny) ∧ w'.cell? ⟨w4.heap.size, 1, none⟩ = some (.slice ay xy.length cy)) := fun w' h => Ky.out w' (below_step b h)
  replace Ku : Hid (∀ w', Below w23.heap.size w23 w' → w'.cell? ⟨bku, 0, none⟩ = some (.bool nu) ∧ w'.cell? ⟨bku, 1, none⟩ = some (.slice au xu.length cu)) := fun w' h => Ku.out w' (below_step b h)
  replace Kv : Hid (∀ w', Below w23.heap.size w23 w' → w'.cell? ⟨bkv, 0, none⟩ = some (.bool nv) ∧ w'.cell? ⟨bkv, 1, none⟩ = some (.slice av xv.length cv)) := fun w' h => Kv.out w' (below_step b h)
  replace Kwv : Hid (∀ w', Below w23.heap.size w23 w' → w'.cell? ⟨bkwv, 0, none⟩ = some (.bool nwv) ∧ w'.cell? ⟨bkwv, 1, none⟩ = some (.slice awv xwv.length cwv)) := fun w' h => Kwv.out w' (below_step b h)
  replace Kzv : Hid (∀ w', Below w23.heap.size w23 w' → w'.cell? ⟨bkzv, 0, none⟩ = some (.bool nzv) ∧ w'.cell? ⟨bkzv, 1, none⟩ = some (.slice azv xzv.length czv)) := fun w' h => Kzv.out w' (below_step b h)
  replace Kov : Hid (∀ w', Below w23.heap.size w23 w' → w'.cell? ⟨bkov, 0, none⟩ = some (.bool nov) ∧ w'.cell? ⟨bkov, 1, none⟩ = some (.slice aov xov.length cov)) := fun w' h => Kov.out w' (below_step b h)
  clear b
  obtain ⟨csv0, csv1⟩ := Ksv.out w23 (Below.refl _ _)
  obtain ⟨cx0, cx1⟩ := Kx.out w23 (Below.refl _ _)
  go_wp2_with fail
  clear csv0 csv1 cx0 cx1
  refine (alike_yes (Zsv.out) (Zx.out) FS.out).mono ?_
  rintro e w24 ⟨rfl, b⟩
  replace Za := hid (Za.out.now b)
  replace Zb := hid (Zb.out.now b)
  replace Zm := hid (Zm.out.now b)
  replace Zx := hid (Zx.out.now b)
  replace Zsv := hid (Zsv.out.now b)
  replace Zy := hid (Zy.out.now b)
  replace Zu := hid (Zu.out.now b)
  replace Zv := hid (Zv.out.now b)
  replace Zwv := hid (Zwv.out.now b)
  replace Zzv := hid (Zzv.out.now b)
  replace Zov := hid (Zov.out.now b)
  replace G := hid (below_step G.out b)
  have lz17 := (show Below _ _ _ from b).size
  replace Ka : Hid (∀ w', Below w24.heap.size w24 w' → w'.cell? ⟨w.heap.size, 0, none⟩ = some (.bool na) ∧ w'.cell? ⟨w.heap.size, 1, none⟩ = some (.slice aa xa.length ca)) := fun w' h => Ka.out w' (below_step b h)
  replace Kb : Hid (∀ w', Below w24.heap.size w24 w' → w'.cell? ⟨w.heap.size + 1, 0, none⟩ = some (.bool nb) ∧ w'.cell? ⟨w.heap.size + 1, 1, none⟩ = some (.slice ab xb.length cb)) := fun w' h => Kb.out w' (below_step b h)
  replace Km : Hid (∀ w', Below w24.heap.size w24 w' → w'.cell? ⟨w.heap.size + 1 + 1, 0, none⟩ = some (.bool nm) ∧ w'.cell? ⟨w.heap.size + 1 + 1, 1, none⟩ = some (.slice am xm.length cm)) := fun w' h => Km.out w' (below_step b h)
  replace Kx : Hid (∀ w', Below w24.heap.size w24 w' → w'.cell? ⟨w1.heap.size, 0, none⟩ = some (.bool nx) ∧ w'.cell? ⟨w1.heap.size, 1, none⟩ = some (.slice ax xx.length cx)) := fun w' h => Kx.out w' (below_step b h)
  replace Ksv : Hid (∀ w', Below w24.heap.size w24 w' → w'.cell? ⟨w2.heap.size, 0, none⟩ = some (.bool nsv) ∧ w'.cell? ⟨w2.heap.size, 1, none⟩ = some (.slice asv xsv.length csv)) := fun w' h => Ksv.out w' (below_step b h)
  replace Ky : Hid (∀ w', Below w24.heap.size w24 w' → w'.cell? ⟨w4.heap.size, 0, none⟩ = some (.bool ny) ∧ w'.cell? ⟨w4.heap.size, 1, none⟩ = some (.slice ay xy.length cy)) := fun w' h => Ky.out w' (below_step b h)
  replace Ku : Hid (∀ w', Below w24.heap.size w24 w' → w'.cell? ⟨bku, 0, none⟩ = some (.bool nu) ∧ w'.cell? ⟨bku, 1, none⟩ = some (.slice au xu.length cu)) := fun w' h => Ku.out w' (below_step b h)
  replace Kv : Hid (∀ w', Below w24.heap.size w24 w' → w'.cell? ⟨bkv, 0, none⟩ = some (.bool nv) ∧ w'.cell? ⟨bkv, 1, none⟩ = some (.slice av xv.length cv)) := fun w' h => Kv.out w' (below_step b h)
  replace Kwv : Hid (∀ w', Below w24.heap.size w24 w' → w'.cell? ⟨bkwv, 0, none⟩ = some (.bool nwv) ∧ w'.cell? ⟨bkwv, 1, none⟩ = some (.slice awv xwv.length cwv)) := fun w' h => Kwv.out w' (below_step b h)
  replace Kzv : Hid (∀ w', Below w24.heap.size w24 w' → w'.cell? ⟨bkzv, 0, none⟩ = some (.bool nzv) ∧ w'.cell? ⟨bkzv, 1, none⟩ = some (.slice azv xzv.length czv)) := fun w' h => Kzv.out w' (below_step b h)
  replace Kov : Hid (∀ w', Below w24.heap.size w24 w' → w'.cell? ⟨bkov, 0, none⟩ = some (.bool nov) ∧ w'.cell? ⟨bkov, 1, none⟩ = some (.slice aov xov.length cov)) := fun w' h => Kov.out w' (below_step b h)
  clear b
  go_wp2
  go_ret
  exact ⟨rfl, G.out⟩
end Go.Proofs.YtgdlecghpbckpaaDoor
