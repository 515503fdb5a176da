/-
  ZEuclid: Euclid.
-/
import Derived.Test.YtiedmlfiboalhaaGreatQDv12ToZFloor
namespace Go.Proofs.YtiedmlfiboalhaaGreat
open Go.RowKit
set_option linter.unusedVariables false

set_option maxHeartbeats 3200000 in
set_option maxRecDepth 100000 in
theorem euclid_pos {w : World} {v u : Value} {z y : Int} {k l : Nat} (h0 : Zi w v z k) (h1 : Zi w u y l) (hy : y ≠ 0) (hk : k ≤ 1099511627776) (hl : l ≤ 1099511627776) (hs : ¬ cmpI (z.tmod y) 0 < 0) :
    Calls Tryz.prog 80 #[v, u] w (GivesZ2 0 w (z.tdiv y) (z.tmod y) (k) (k)) := by
  have hv := h0
  have hu := h1
  obtain ⟨n, xs, a, c, rfl, s0, z0, k0⟩ := h0
  obtain ⟨m, ys, b, d, rfl, s1, z1, k1⟩ := h1
  obtain ⟨W0, hW0⟩ : ∃ W0, (((w.alloc (duo (.bool n) (.slice a xs.length c))).alloc (duo (.bool m) (.slice b ys.length d))).alloc zbox).alloc zbox = W0 := ⟨_, rfl⟩
  obtain ⟨b0, sz0⟩ := alloc4 w (duo (.bool n) (.slice a xs.length c)) (duo (.bool m) (.slice b ys.length d)) zbox zbox
  rw [hW0] at b0 sz0
  have p0 : Duo W0 (w.heap.size) (.bool n) (.slice a xs.length c) := by rw [← hW0]; exact duo_late (duo_late (duo_late (duo_at (by simp)) _) _) _
  have p1 : Duo W0 (w.heap.size + 1) (.bool m) (.slice b ys.length d) := by rw [← hW0]; exact duo_late (duo_late (duo_at (by simp)) _) _
  have r0 : Duo W0 (w.heap.size + 1 + 1) (.bool false) (.slice none 0 0) := by rw [← hW0]; exact duo_late (duo_at (by simp)) _
  have r1 : Duo W0 (w.heap.size + 1 + 1 + 1) (.bool false) (.slice none 0 0) := by rw [← hW0]; exact duo_at (by simp)
  have HKB : Hid (∀ w', Below W0.heap.size W0 w' → w'.cell? ⟨w.heap.size, 0, none⟩ = some (.bool n) ∧ w'.cell? ⟨w.heap.size, 1, none⟩ = some (.slice a xs.length c) ∧ w'.cell? ⟨w.heap.size + 1, 0, none⟩ = some (.bool m) ∧ w'.cell? ⟨w.heap.size + 1, 1, none⟩ = some (.slice b ys.length d)) := fun w' h => ⟨(p0.below h (by omega)).c0, (p0.below h (by omega)).c1, (p1.below h (by omega)).c0, (p1.below h (by omega)).c1⟩
  have HKR : Hid (∀ w', Below W0.heap.size W0 w' → Duo w' (w.heap.size + 1 + 1) (.bool false) (.slice none 0 0) ∧ Duo w' (w.heap.size + 1 + 1 + 1) (.bool false) (.slice none 0 0)) := fun w' h => ⟨r0.below h (by omega), r1.below h (by omega)⟩
  obtain ⟨i0, i1, i2, i3⟩ := HKB.out W0 (Below.refl _ _)
  have EW := hid hW0
  have B0 := hid b0
  have HD := hid (trunc_z (hv.now b0) (hu.now b0) hy hk hl)
  have hu0 := hid (hu.now b0)
  have bd1 := cmpI_bound (z.tmod y) 0
  have bd2 := cmpI_bound y 0
  have HS1 : Hid (∀ (w' : World) (v : Value) (k : Nat), Zi w' v (z.tmod y) k → _) := fun w' v k h => sign_z h
  have HS2 : Hid (∀ (w' : World) (v : Value) (k : Nat), Zi w' v y k → _) := fun w' v k h => sign_z h
  generalize cmpI (z.tmod y) 0 = C1 at *
  generalize cmpI y 0 = C2 at *
  have q0 : ((0 : Int) != 0) = false := rfl
  have hk1 : k < 35184372088832 := by omega
  have hl1 : l < 35184372088832 := by omega
  clear hv hu s0 s1 z0 z1 p0 p1 r0 r1 hW0 b0 bd1
  go_enter Tryz.func80, Tryz.ntmps80
  go_wp2_with fail
  rw [EW.out]
  refine HD.out.mono ?_
  rintro e w1 ⟨rq, rr, rfl, mq, mr, b1⟩
  obtain ⟨nq, xq, aq, cq, rfl, -, -, -, -, -⟩ := id mq
  obtain ⟨nr, xr, ar, cr, rfl, -, -, -, -, -⟩ := id mr
  obtain ⟨W1, hW1⟩ : ∃ W1, (w1.alloc (duo (.bool nq) (.slice aq xq.length cq))).alloc (duo (.bool nr) (.slice ar xr.length cr)) = W1 := ⟨_, rfl⟩
  obtain ⟨k1, sz1⟩ := alloc2 w1 (duo (.bool nq) (.slice aq xq.length cq)) (duo (.bool nr) (.slice ar xr.length cr))
  rw [hW1] at k1 sz1
  have le1 := b1.size
  have dq : Duo W1 w1.heap.size (.bool nq) (.slice aq xq.length cq) := by rw [← hW1]; exact duo_late (duo_at rfl) _
  have dr : Duo W1 (w1.heap.size + 1) (.bool nr) (.slice ar xr.length cr) := by rw [← hW1]; exact duo_at (by simp)
  have HP1 := hid (below_step b1 k1)
  have ZQ := hid (mq.now k1)
  have ZR := hid (mr.now k1)
  have ZB := hid (hu0.out.now HP1.out)
  have HKC : Hid (∀ w', Below W1.heap.size W1 w' → (w'.cell? ⟨w.heap.size + 1, 0, none⟩ = some (.bool m) ∧ w'.cell? ⟨w.heap.size + 1, 1, none⟩ = some (.slice b ys.length d) ∧ w'.cell? ⟨w1.heap.size + 1, 0, none⟩ = some (.bool nr) ∧ w'.cell? ⟨w1.heap.size + 1, 1, none⟩ = some (.slice ar xr.length cr)) ∧ Duo w' w1.heap.size (.bool nq) (.slice aq xq.length cq) ∧ Duo w' (w1.heap.size + 1) (.bool nr) (.slice ar xr.length cr) ∧ (Duo w' (w.heap.size + 1 + 1) (.bool false) (.slice none 0 0) ∧ Duo w' (w.heap.size + 1 + 1 + 1) (.bool false) (.slice none 0 0))) := fun w' h => by
    have h0 := below_step HP1.out h
    obtain ⟨_, _, j2, j3⟩ := HKB.out w' h0
    have d1 := dr.below h (by omega)
    exact ⟨⟨j2, j3, d1.c0, d1.c1⟩, dq.below h (by omega), d1, HKR.out w' h0⟩
  obtain ⟨⟨t0, t1, t2, t3⟩, -⟩ := HKC.out W1 (Below.refl _ _)
  rw [← hW1] at t0 t1 t2 t3
  have EW1 := hid hW1
  have B1 := hid (below_step B0.out HP1.out)
  clear mq mr b1 k1 HD dq dr hW1 HKB HKR i0 i1 i2 i3 hu0 EW
  go_wp2_with fail
  rw [EW1.out]
  clear t0 t1 t2 t3
  refine (HS1.out _ _ _ ZR.out.zi).mono ?_
  rintro e3 w3 ⟨rfl, b3⟩
  have HP3 := hid b3
  clear b3
  have e0 := (HKC.out w3 HP3.out).2.1.c0
  have e1 := (HKC.out w3 HP3.out).2.1.c1
  have e2 := (HKC.out w3 HP3.out).2.2.1.c0
  have e3 := (HKC.out w3 HP3.out).2.2.1.c1
  have RR := hid (HKC.out w3 HP3.out).2.2.2
  have y0 := RR.out.1.c0
  have y1 := RR.out.1.c1
  have y2 := RR.out.2.c0
  have y3 := RR.out.2.c1
  have f0 := RR.out.1.fz 0
  have f1 := RR.out.1.fz 1
  have f2 := RR.out.2.fz 0
  have f3 := RR.out.2.fz 1
  go_wp2_with fail
  go_region
  all_goals (try go_wp2)
  all_goals refine bodyPost_ret (zback2 Tryz.results80 (((RR.out.1.set _ _).ne (by omega)).ne (by omega)).drew (((RR.out.2.ne (by omega)).ne (by omega)).set _ _).drew _ rfl rfl rfl) rfl (gz2_drew (gz2_end (B := W0.heap.size) (ZQ.out.now HP3.out) (ZR.out.now HP3.out) (below_step B1.out HP3.out) (by omega) (by omega) (by omega) (by omega)))

set_option maxHeartbeats 3200000 in
set_option maxRecDepth 100000 in
theorem euclid_neg {w : World} {v u : Value} {z y : Int} {k l : Nat} (h0 : Zi w v z k) (h1 : Zi w u y l) (hy : y ≠ 0) (hk : k ≤ 1099511627776) (hl : l ≤ 1099511627776) (hs : cmpI (z.tmod y) 0 < 0) :
    Calls Tryz.prog 80 #[v, u] w (GivesZ2 0 w (z.tdiv y - cmpI y 0) (z.tmod y + (y.natAbs : Int)) (max k 1 + 1) (max k l + 1)) := by
  have hv := h0
  have hu := h1
  obtain ⟨n, xs, a, c, rfl, s0, z0, k0⟩ := h0
  obtain ⟨m, ys, b, d, rfl, s1, z1, k1⟩ := h1
  obtain ⟨W0, hW0⟩ : ∃ W0, (((w.alloc (duo (.bool n) (.slice a xs.length c))).alloc (duo (.bool m) (.slice b ys.length d))).alloc zbox).alloc zbox = W0 := ⟨_, rfl⟩
  obtain ⟨b0, sz0⟩ := alloc4 w (duo (.bool n) (.slice a xs.length c)) (duo (.bool m) (.slice b ys.length d)) zbox zbox
  rw [hW0] at b0 sz0
  have p0 : Duo W0 (w.heap.size) (.bool n) (.slice a xs.length c) := by rw [← hW0]; exact duo_late (duo_late (duo_late (duo_at (by simp)) _) _) _
  have p1 : Duo W0 (w.heap.size + 1) (.bool m) (.slice b ys.length d) := by rw [← hW0]; exact duo_late (duo_late (duo_at (by simp)) _) _
  have r0 : Duo W0 (w.heap.size + 1 + 1) (.bool false) (.slice none 0 0) := by rw [← hW0]; exact duo_late (duo_at (by simp)) _
  have r1 : Duo W0 (w.heap.size + 1 + 1 + 1) (.bool false) (.slice none 0 0) := by rw [← hW0]; exact duo_at (by simp)
  have HKB : Hid (∀ w', Below W0.heap.size W0 w' → w'.cell? ⟨w.heap.size, 0, none⟩ = some (.bool n) ∧ w'.cell? ⟨w.heap.size, 1, none⟩ = some (.slice a xs.length c) ∧ w'.cell? ⟨w.heap.size + 1, 0, none⟩ = some (.bool m) ∧ w'.cell? ⟨w.heap.size + 1, 1, none⟩ = some (.slice b ys.length d)) := fun w' h => ⟨(p0.below h (by omega)).c0, (p0.below h (by omega)).c1, (p1.below h (by omega)).c0, (p1.below h (by omega)).c1⟩
  have HKR : Hid (∀ w', Below W0.heap.size W0 w' → Duo w' (w.heap.size + 1 + 1) (.bool false) (.slice none 0 0) ∧ Duo w' (w.heap.size + 1 + 1 + 1) (.bool false) (.slice none 0 0)) := fun w' h => ⟨r0.below h (by omega), r1.below h (by omega)⟩
  obtain ⟨i0, i1, i2, i3⟩ := HKB.out W0 (Below.refl _ _)
  have EW := hid hW0
  have B0 := hid b0
  have HD := hid (trunc_z (hv.now b0) (hu.now b0) hy hk hl)
  have hu0 := hid (hu.now b0)
  have bd1 := cmpI_bound (z.tmod y) 0
  have bd2 := cmpI_bound y 0
  have HS1 : Hid (∀ (w' : World) (v : Value) (k : Nat), Zi w' v (z.tmod y) k → _) := fun w' v k h => sign_z h
  have HS2 : Hid (∀ (w' : World) (v : Value) (k : Nat), Zi w' v y k → _) := fun w' v k h => sign_z h
  generalize cmpI (z.tmod y) 0 = C1 at *
  generalize cmpI y 0 = C2 at *
  have q0 : ((0 : Int) != 0) = false := rfl
  have hk1 : k < 35184372088832 := by omega
  have hl1 : l < 35184372088832 := by omega
  clear hv hu s0 s1 z0 z1 p0 p1 r0 r1 hW0 b0 bd1
  go_enter Tryz.func80, Tryz.ntmps80
  go_wp2_with fail
  rw [EW.out]
  refine HD.out.mono ?_
  rintro e w1 ⟨rq, rr, rfl, mq, mr, b1⟩
  obtain ⟨nq, xq, aq, cq, rfl, -, -, -, -, -⟩ := id mq
  obtain ⟨nr, xr, ar, cr, rfl, -, -, -, -, -⟩ := id mr
  obtain ⟨W1, hW1⟩ : ∃ W1, (w1.alloc (duo (.bool nq) (.slice aq xq.length cq))).alloc (duo (.bool nr) (.slice ar xr.length cr)) = W1 := ⟨_, rfl⟩
  obtain ⟨k1, sz1⟩ := alloc2 w1 (duo (.bool nq) (.slice aq xq.length cq)) (duo (.bool nr) (.slice ar xr.length cr))
  rw [hW1] at k1 sz1
  have le1 := b1.size
  have dq : Duo W1 w1.heap.size (.bool nq) (.slice aq xq.length cq) := by rw [← hW1]; exact duo_late (duo_at rfl) _
  have dr : Duo W1 (w1.heap.size + 1) (.bool nr) (.slice ar xr.length cr) := by rw [← hW1]; exact duo_at (by simp)
  have HP1 := hid (below_step b1 k1)
  have ZQ := hid (mq.now k1)
  have ZR := hid (mr.now k1)
  have ZB := hid (hu0.out.now HP1.out)
  have HKC : Hid (∀ w', Below W1.heap.size W1 w' → (w'.cell? ⟨w.heap.size + 1, 0, none⟩ = some (.bool m) ∧ w'.cell? ⟨w.heap.size + 1, 1, none⟩ = some (.slice b ys.length d) ∧ w'.cell? ⟨w1.heap.size + 1, 0, none⟩ = some (.bool nr) ∧ w'.cell? ⟨w1.heap.size + 1, 1, none⟩ = some (.slice ar xr.length cr)) ∧ Duo w' w1.heap.size (.bool nq) (.slice aq xq.length cq) ∧ Duo w' (w1.heap.size + 1) (.bool nr) (.slice ar xr.length cr) ∧ (Duo w' (w.heap.size + 1 + 1) (.bool false) (.slice none 0 0) ∧ Duo w' (w.heap.size + 1 + 1 + 1) (.bool false) (.slice none 0 0))) := fun w' h => by
    have h0 := below_step HP1.out h
    obtain ⟨_, _, j2, j3⟩ := HKB.out w' h0
    have d1 := dr.below h (by omega)
    exact ⟨⟨j2, j3, d1.c0, d1.c1⟩, dq.below h (by omega), d1, HKR.out w' h0⟩
  obtain ⟨⟨t0, t1, t2, t3⟩, -⟩ := HKC.out W1 (Below.refl _ _)
  rw [← hW1] at t0 t1 t2 t3
  have EW1 := hid hW1
  have B1 := hid (below_step B0.out HP1.out)
  clear mq mr b1 k1 HD dq dr hW1 HKB HKR i0 i1 i2 i3 hu0 EW
  go_wp2_with fail
  rw [EW1.out]
  clear t0 t1 t2 t3
  refine (HS1.out _ _ _ ZR.out.zi).mono ?_
  rintro e3 w3 ⟨rfl, b3⟩
  have HP3 := hid b3
  clear b3
  have HKS : Hid (∀ w', Below w3.heap.size w3 w' → w'.cell? ⟨w.heap.size + 1, 0, none⟩ = some (.bool m) ∧ w'.cell? ⟨w.heap.size + 1, 1, none⟩ = some (.slice b ys.length d) ∧ w'.cell? ⟨w1.heap.size, 0, none⟩ = some (.bool nq) ∧ w'.cell? ⟨w1.heap.size, 1, none⟩ = some (.slice aq xq.length cq) ∧ w'.cell? ⟨w1.heap.size + 1, 0, none⟩ = some (.bool nr) ∧ w'.cell? ⟨w1.heap.size + 1, 1, none⟩ = some (.slice ar xr.length cr)) := fun w' h => by
    obtain ⟨⟨j0, j1, _, _⟩, j4, j5, _⟩ := HKC.out w' (below_step HP3.out h)
    exact ⟨j0, j1, j4.c0, j4.c1, j5.c0, j5.c1⟩
  replace ZQ := hid (ZQ.out.now HP3.out)
  replace ZR := hid (ZR.out.now HP3.out)
  replace ZB := hid (ZB.out.now HP3.out)
  have le3 := HP3.out.size
  go_wp2_with fail
  refine wp_region_tail (fun w' => w'.cell? ⟨w.heap.size + 1, 0, none⟩ = some (.bool m) ∧ w'.cell? ⟨w.heap.size + 1, 1, none⟩ = some (.slice b ys.length d) ∧ w'.cell? ⟨w1.heap.size, 0, none⟩ = some (.bool nq) ∧ w'.cell? ⟨w1.heap.size, 1, none⟩ = some (.slice aq xq.length cq) ∧ w'.cell? ⟨w1.heap.size + 1, 0, none⟩ = some (.bool nr) ∧ w'.cell? ⟨w1.heap.size + 1, 1, none⟩ = some (.slice ar xr.length cr)) 9 (by kernel_rfl) ?_
  refine wpAnyT_take (i := 0) (oi := { dst := some 20, op := Op.load 43 (Operand.tmp 7), type := 43, pos := "divide.go:32", after := #[], guard := none }) (v := .agg #[.bool nq, .slice aq xq.length cq]) rfl (by kernel_rfl) (fun _ _ _ h => h) (Or.inl ⟨by rfl, ?_⟩) (HKS.out _ (Below.refl _ _).drew) ?_
  · intro w hSw
    (try dsimp only at hSw)
    go_simp
  simp only [Act.put, List.setIfInBounds_toArray, List.set_cons_zero, List.set_cons_succ]
  refine wpAnyT_take (i := 1) (oi := { dst := some 21, op := Op.load 43 (Operand.tmp 3), type := 43, pos := "divide.go:32", after := #[], guard := none }) (v := .agg #[.bool m, .slice b ys.length d]) rfl (by kernel_rfl) (fun _ _ _ h => h) (Or.inl ⟨by rfl, ?_⟩) (HKS.out _ (Below.refl _ _).drew) ?_
  · intro w hSw
    (try dsimp only at hSw)
    go_simp
  simp only [Act.put, List.setIfInBounds_toArray, List.set_cons_zero, List.set_cons_succ]
  refine wpAnyT_take (i := 5) (oi := { dst := some 25, op := Op.load 43 (Operand.tmp 8), type := 43, pos := "divide.go:32", after := #[], guard := none }) (v := .agg #[.bool nr, .slice ar xr.length cr]) rfl (by kernel_rfl) (fun _ _ _ h => h) (Or.inl ⟨by rfl, ?_⟩) (HKS.out _ (Below.refl _ _).drew) ?_
  · intro w hSw
    (try dsimp only at hSw)
    go_simp
  simp only [Act.put, List.setIfInBounds_toArray, List.set_cons_zero, List.set_cons_succ]
  refine wpAnyT_take (i := 6) (oi := { dst := some 26, op := Op.load 43 (Operand.tmp 3), type := 43, pos := "divide.go:32", after := #[], guard := none }) (v := .agg #[.bool m, .slice b ys.length d]) rfl (by kernel_rfl) (fun _ _ _ h => h) (Or.inl ⟨by rfl, ?_⟩) (HKS.out _ (Below.refl _ _).drew) ?_
  · intro w hSw
    (try dsimp only at hSw)
    go_simp
  simp only [Act.put, List.setIfInBounds_toArray, List.set_cons_zero, List.set_cons_succ]
  refine wpAnyT_one (i := 2) (o := { dst := some 22, op := Op.call { callee := Callee.value (Operand.func 87), args := #[Operand.tmp 21], argTypes := #[43] }, type := 3, pos := "divide.go:32", after := #[{ on := 1, ground := Ground.data }], guard := none }) (by kernel_rfl) rfl (fun K hK => ?_)
  go_simp
  go_at_call 87
  refine (HS2.out _ _ _ (ZB.out.now (by repeat (first | exact Below.refl _ _ | apply Below.drew)))).mono ?_
  rintro e4 w4 ⟨rfl, b4⟩
  have HB4 : Hid (Below w3.heap.size w3 w4) := below_step (w0 := w3) (by repeat (first | exact Below.refl _ _ | apply Below.drew)) b4
  have HP4 : Hid (Below w3.heap.size w3 w4) := HB4.out
  replace ZQ := hid (ZQ.out.now HB4.out)
  replace ZR := hid (ZR.out.now HB4.out)
  replace ZB := hid (ZB.out.now HB4.out)
  refine hK.out _ _ (fun _ => HKS.out w4 HP4.out) ?_
  clear hK b4
  refine wpAnyT_one (i := 3) (o := { dst := some 23, op := Op.call { callee := Callee.value (Operand.func 59), args := #[Operand.tmp 22], argTypes := #[2] }, type := 43, pos := "divide.go:32", after := #[{ on := 2, ground := Ground.data }, { on := 2, ground := Ground.chain }], guard := none }) (by kernel_rfl) rfl (fun K hK => ?_)
  go_simp
  go_at_call 59
  refine (of_z (n := C2) (by omega) (by omega) _).mono ?_
  rintro e5 w5 ⟨r5, rfl, m5, b5⟩
  have HB5 : Hid (Below w4.heap.size w4 w5) := below_step (w0 := w4) (by repeat (first | exact Below.refl _ _ | apply Below.drew)) b5
  have HP5 : Hid (Below w3.heap.size w3 w5) := below_step HP4.out HB5.out
  have ZO := hid m5
  obtain ⟨n5, x5, a5, q5, rfl, -, -, -, -, -⟩ := m5
  replace ZQ := hid (ZQ.out.now HB5.out)
  replace ZR := hid (ZR.out.now HB5.out)
  replace ZB := hid (ZB.out.now HB5.out)
  refine hK.out _ _ (fun _ => HKS.out w5 HP5.out) ?_
  clear hK b5
  refine wpAnyT_one (i := 4) (o := { dst := some 24, op := Op.call { callee := Callee.value (Operand.func 88), args := #[Operand.tmp 20, Operand.tmp 23], argTypes := #[43, 43] }, type := 43, pos := "divide.go:32", after := #[{ on := 0, ground := Ground.data }, { on := 3, ground := Ground.data }, { on := 3, ground := Ground.chain }], guard := none }) (by kernel_rfl) rfl (fun K hK => ?_)
  go_simp
  go_at_call 88
  refine (sub_z ZQ.out.zi ZO.out.zi hk1 (by decide)).mono ?_
  rintro e6 w6 ⟨r6, rfl, m6, b6⟩
  have HB6 : Hid (Below w5.heap.size w5 w6) := below_step (w0 := w5) (by repeat (first | exact Below.refl _ _ | apply Below.drew)) b6
  have HP6 : Hid (Below w3.heap.size w3 w6) := below_step HP5.out HB6.out
  have ZU := hid m6
  obtain ⟨n6, x6, a6, q6, rfl, -, -, -, -, -⟩ := m6
  replace ZR := hid (ZR.out.now HB6.out)
  replace ZB := hid (ZB.out.now HB6.out)
  refine hK.out _ _ (fun _ => HKS.out w6 HP6.out) ?_
  clear hK b6
  refine wpAnyT_one (i := 7) (o := { dst := some 27, op := Op.call { callee := Callee.value (Operand.func 90), args := #[Operand.tmp 26], argTypes := #[43] }, type := 43, pos := "divide.go:32", after := #[{ on := 6, ground := Ground.data }, { on := 4, ground := Ground.chain }], guard := none }) (by kernel_rfl) rfl (fun K hK => ?_)
  go_simp
  go_at_call 90
  refine (abs_z ZB.out).mono ?_
  rintro e7 w7 ⟨r7, rfl, m7, b7⟩
  have HB7 : Hid (Below w6.heap.size w6 w7) := below_step (w0 := w6) (by repeat (first | exact Below.refl _ _ | apply Below.drew)) b7
  have HP7 : Hid (Below w3.heap.size w3 w7) := below_step HP6.out HB7.out
  have ZA := hid m7
  obtain ⟨n7, x7, a7, q7, rfl, -, -, -, -, -⟩ := m7
  replace ZR := hid (ZR.out.now HB7.out)
  replace ZU := hid (ZU.out.now HB7.out)
  refine hK.out _ _ (fun _ => HKS.out w7 HP7.out) ?_
  clear hK b7
  refine wpAnyT_one (i := 8) (o := { dst := some 28, op := Op.call { callee := Callee.value (Operand.func 89), args := #[Operand.tmp 25, Operand.tmp 27], argTypes := #[43, 43] }, type := 43, pos := "divide.go:32", after := #[{ on := 5, ground := Ground.data }, { on := 7, ground := Ground.data }, { on := 7, ground := Ground.chain }], guard := none }) (by kernel_rfl) rfl (fun K hK => ?_)
  go_simp
  go_at_call 89
  refine (add_z ZR.out.zi ZA.out.zi hk1 hl1).mono ?_
  rintro e8 w8 ⟨r8, rfl, m8, b8⟩
  have HB8 : Hid (Below w7.heap.size w7 w8) := below_step (w0 := w7) (by repeat (first | exact Below.refl _ _ | apply Below.drew)) b8
  have HP8 : Hid (Below w3.heap.size w3 w8) := below_step HP7.out HB8.out
  have ZV := hid m8
  obtain ⟨n8, x8, a8, q8, rfl, -, -, -, -, -⟩ := m8
  replace ZU := hid (ZU.out.now HB8.out)
  obtain ⟨-, dq6, dr6, rr6⟩ := HKC.out w8 (below_step HP3.out HP8.out)
  have c62 := dq6.c0
  have c63 := dq6.c1
  have c64 := dr6.c0
  have c65 := dr6.c1
  have g62 := dq6.fz 0
  have g63 := dq6.fz 1
  have g64 := dr6.fz 0
  have g65 := dr6.fz 1
  have DD := hid (And.intro dq6 (And.intro dr6 rr6))
  refine hK.out _ _ (fun _ => HKS.out w8 HP8.out) ?_
  clear hK b8 dq6 dr6 rr6
  refine wpAnyT_one (i := 9) (o := { dst := none, op := Op.store 43 (Operand.tmp 7) (Operand.tmp 24), type := 0, pos := "divide.go:32", after := #[{ on := 4, ground := Ground.data }, { on := 8, ground := Ground.chain }, { on := 0, ground := Ground.phase }, { on := 1, ground := Ground.phase }, { on := 2, ground := Ground.phase }, { on := 3, ground := Ground.phase }, { on := 4, ground := Ground.phase }, { on := 5, ground := Ground.textOnly Departure.lateStores }, { on := 6, ground := Ground.textOnly Departure.lateStores }, { on := 7, ground := Ground.textOnly Departure.lateStoresUnsure }, { on := 8, ground := Ground.textOnly Departure.lateStoresUnsure }], guard := none }) (by kernel_rfl) rfl (fun K hK => ?_)
  go_simp
  refine hK.out _ _ (fun h => absurd h (by decide)) ?_
  clear hK
  try simp only [Act.put]
  refine wpAnyT_one (i := 10) (o := { dst := none, op := Op.store 43 (Operand.tmp 8) (Operand.tmp 28), type := 0, pos := "divide.go:32", after := #[{ on := 8, ground := Ground.data }, { on := 9, ground := Ground.chain }, { on := 0, ground := Ground.phase }, { on := 1, ground := Ground.phase }, { on := 2, ground := Ground.phase }, { on := 3, ground := Ground.phase }, { on := 4, ground := Ground.phase }, { on := 5, ground := Ground.phase }, { on := 6, ground := Ground.phase }, { on := 7, ground := Ground.phase }, { on := 8, ground := Ground.phase }, { on := 9, ground := Ground.phase }], guard := none }) (by kernel_rfl) rfl (fun K hK => ?_)
  go_simp
  refine hK.out _ _ (fun h => absurd h (by decide)) ?_
  clear hK
  try simp only [Act.put]
  refine wpAnyT_done (by kernel_rfl) ?_ _
  have le4 := HB4.out.size
  have le5 := HB5.out.size
  have le6 := HB6.out.size
  have le7 := HB7.out.size
  have le8 := HB8.out.size
  obtain ⟨WX, hWX⟩ : ∃ WX, (((w8.setCell ⟨w1.heap.size, 0, none⟩ (.bool n6)).setCell ⟨w1.heap.size, 1, none⟩ (.slice a6 x6.length q6)).setCell ⟨w1.heap.size + 1, 0, none⟩ (.bool n8)).setCell ⟨w1.heap.size + 1, 1, none⟩ (.slice a8 x8.length q8) = WX := ⟨_, rfl⟩
  have dX0 : Duo WX w1.heap.size (.bool n6) (.slice a6 x6.length q6) := by rw [← hWX]; exact ((DD.out.1.set _ _).ne (by omega)).ne (by omega)
  have dX1 : Duo WX (w1.heap.size + 1) (.bool n8) (.slice a8 x8.length q8) := by rw [← hWX]; exact ((DD.out.2.1.ne (by omega)).ne (by omega)).set _ _
  have RR : Hid (Duo WX (w.heap.size + 1 + 1) (.bool false) (.slice none 0 0) ∧ Duo WX (w.heap.size + 1 + 1 + 1) (.bool false) (.slice none 0 0)) := by unfold Hid; rw [← hWX]; exact ⟨(((DD.out.2.2.1.ne (by omega)).ne (by omega)).ne (by omega)).ne (by omega), (((DD.out.2.2.2.ne (by omega)).ne (by omega)).ne (by omega)).ne (by omega)⟩
  have e0 := dX0.c0
  have e1 := dX0.c1
  have e2 := dX1.c0
  have e3 := dX1.c1
  have y0 := RR.out.1.c0
  have y1 := RR.out.1.c1
  have y2 := RR.out.2.c0
  have y3 := RR.out.2.c1
  have f0 := RR.out.1.fz 0
  have f1 := RR.out.1.fz 1
  have f2 := RR.out.2.fz 0
  have f3 := RR.out.2.fz 1
  have ZUX : Hid (Zm (w1.heap.size + 2) WX (.agg #[.bool n6, .slice a6 x6.length q6]) (z.tdiv y - C2) (max k 1 + 1)) := by
    unfold Hid; rw [← hWX]
    exact (((((ZU.out).mono (by omega)).setLow (by omega) 0 _).setLow (by omega) 1 _).setLow (by omega) 0 _).setLow (by omega) 1 _
  have ZVX : Hid (Zm (w1.heap.size + 2) WX (.agg #[.bool n8, .slice a8 x8.length q8]) (z.tmod y + (y.natAbs : Int)) (max k l + 1)) := by
    unfold Hid; rw [← hWX]
    exact ((((ZV.out.mono (by omega)).setLow (by omega) 0 _).setLow (by omega) 1 _).setLow (by omega) 0 _).setLow (by omega) 1 _
  have BX : Hid (Below w.heap.size w WX) := by
    unfold Hid; rw [← hWX]
    exact bset (bset (bset (bset (below_step (below_step B1.out HP3.out) HP8.out) (by omega)) (by omega)) (by omega)) (by omega)
  have EX := hid hWX
  clear dX0 dX1 hWX
  go_wp2_with fail
  rw [EX.out]
  go_region
  all_goals (try go_wp2)
  all_goals refine bodyPost_ret (zback2 Tryz.results80 (((RR.out.1.set _ _).ne (by omega)).ne (by omega)).drew (((RR.out.2.ne (by omega)).ne (by omega)).set _ _).drew _ rfl rfl rfl) rfl (gz2_drew (gz2_end (B := w1.heap.size + 2) ZUX.out ZVX.out BX.out (by omega) (by omega) (by omega) (by omega)))
end Go.Proofs.YtiedmlfiboalhaaGreat
