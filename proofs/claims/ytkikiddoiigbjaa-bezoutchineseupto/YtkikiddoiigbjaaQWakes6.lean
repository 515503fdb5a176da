/-
  Wakes6: wakes.
-/
import Derived.Test.YtkikiddoiigbjaaQExt6
import Derived.Test.YtkikiddoiigbjaaQBool6ToChinH6
namespace Go.Proofs.Ytkikiddoiigbjaa
open Go.RowKit
set_option linter.unusedVariables false

theorem ext_12 {g x y : Int} (h : ExtV 12 18 g x y) : g = 6 ∧ x = 2 ∧ y = -1 := by
  obtain ⟨hg, hl, hr, -⟩ := h
  have e : (Int.gcd 12 18 : Int) = 6 := by decide
  rw [e] at hg
  subst hg
  have := hr (by decide)
  have e2 : ((18 : Int).natAbs : Int) = 18 := rfl
  omega
theorem of6c {n : Int} (h0 : 0 < n) (h1 : n ≤ 18446744073709551615) (w : World) : Calls Try.prog 15 #[.int .u64 n] w (GivesC w n 1) :=
  (of6 (Int.le_of_lt h0) h1 w).mono fun e w' ⟨r, h1, _, h3, h4⟩ => ⟨r, h1, h3 h0, h4⟩
theorem of6i {n : Int} (h0 : 0 ≤ n) (h1 : n ≤ 18446744073709551615) (w : World) : Calls Try.prog 15 #[.int .u64 n] w (GivesI w n 1) :=
  (of6 h0 h1 w).mono fun e w' ⟨r, h1, h2, _, h4⟩ => ⟨r, h1, h2, h4⟩

set_option maxHeartbeats 6400000 in
set_option maxRecDepth 100000 in
theorem wakes6 (w : World) : Calls Try.prog 5 #[] w fun e w' => e = .returned (.bool true) ∧ Below w.heap.size w w' := by
  have G : Hid (Below w.heap.size w w) := Below.refl _ _
  go_enter Try.func5, Try.ntmps5
  go_wp2_with fail
  refine (of6c (n := 12) (by decide) (by decide) _).mono ?_
  rintro e w1 ⟨r0, rfl, m0, b⟩
  obtain ⟨np, xp, adp, qp, rfl, -, -, -, -, -⟩ := id m0
  replace G := hid (below_step G.out b)
  have lz2 := (show Below _ _ _ from b).size
  have Zp := hid m0
  clear b m0
  go_wp2_with fail
  refine (of6c (n := 18) (by decide) (by decide) _).mono ?_
  rintro e w3 ⟨r0, rfl, m0, b⟩
  obtain ⟨nq, xq, adq, qq, rfl, -, -, -, -, -⟩ := id m0
  replace Zp := hid (Zp.out.now b)
  replace G := hid (below_step G.out b)
  have lz4 := (show Below _ _ _ from b).size
  have Zq := hid m0
  clear b m0
  go_wp2_with fail
  refine (ext_z Zp.out.zi Zq.out.zi (by decide) (by decide)).mono ?_
  rintro e w5 ⟨zg, zx, zy, r0, r1, r2, hx, rfl, m0, m1, m2, b⟩
  obtain ⟨ng, xg, adg, qg, rfl, -, -, -, -, -⟩ := id m0
  obtain ⟨nx, xx, adx, qx, rfl, -, -, -, -, -⟩ := id m1
  obtain ⟨ny, xy, ady, qy, rfl, -, -, -, -, -⟩ := id m2
  obtain ⟨e1, e2, e3⟩ := ext_12 hx
  subst e1 e2 e3
  clear hx
  replace Zp := hid (Zp.out.now b)
  replace Zq := hid (Zq.out.now b)
  replace G := hid (below_step G.out b)
  have lz6 := (show Below _ _ _ from b).size
  have Zg := hid m0
  have Zx := hid m1
  have Zy := hid m2
  clear b m0 m1 m2
  obtain ⟨V7, hW⟩ : ∃ V7, ((w5.alloc (duo (.bool ng) (.slice adg xg.length qg))).alloc (duo (.bool nx) (.slice adx xx.length qx))).alloc (duo (.bool ny) (.slice ady xy.length qy)) = V7 := ⟨_, rfl⟩
  obtain ⟨kW, sz7⟩ := alloc3 w5 (duo (.bool ng) (.slice adg xg.length qg)) (duo (.bool nx) (.slice adx xx.length qx)) (duo (.bool ny) (.slice ady xy.length qy))
  rw [hW] at kW sz7
  replace Zp := hid (Zp.out.now kW)
  replace Zq := hid (Zq.out.now kW)
  replace Zg := hid (Zg.out.now kW)
  replace Zx := hid (Zx.out.now kW)
  replace Zy := hid (Zy.out.now kW)
  replace G := hid (below_step G.out kW)
  have lz8 := (show Below _ _ _ from kW).size
  have Pg : Hid (Duo V7 (w5.heap.size) (.bool ng) (.slice adg xg.length qg)) := by unfold Hid; rw [← hW]; exact duo_late (duo_late (duo_at (by simp)) _) _
  have Px : Hid (Duo V7 (w5.heap.size + 1) (.bool nx) (.slice adx xx.length qx)) := by unfold Hid; rw [← hW]; exact duo_late (duo_at (by simp)) _
  have Py : Hid (Duo V7 (w5.heap.size + 1 + 1) (.bool ny) (.slice ady xy.length qy)) := by unfold Hid; rw [← hW]; exact duo_at (by simp)
  clear kW
  have EW := hid hW
  clear hW
  go_wp2_with fail
  rw [EW.out]
  clear EW
  refine wp_region_tail (fun w' => w'.cell? ⟨w5.heap.size, 0, none⟩ = some (.bool ng) ∧ w'.cell? ⟨w5.heap.size, 1, none⟩ = some (.slice adg xg.length qg) ∧ w'.cell? ⟨w5.heap.size + 1, 0, none⟩ = some (.bool nx) ∧ w'.cell? ⟨w5.heap.size + 1, 1, none⟩ = some (.slice adx xx.length qx) ∧ w'.cell? ⟨w5.heap.size + 1 + 1, 0, none⟩ = some (.bool ny) ∧ w'.cell? ⟨w5.heap.size + 1 + 1, 1, none⟩ = some (.slice ady xy.length qy)) 14 (by kernel_rfl) ?_
  obtain ⟨D9, hD⟩ : ∃ D9, V7.drew = D9 := ⟨_, rfl⟩
  have b : Below V7.heap.size V7 D9 := by rw [← hD]; exact (Below.refl _ _).drew
  rw [hD]
  clear hD
  replace Zp := hid (Zp.out.now b)
  replace Zq := hid (Zq.out.now b)
  replace Zg := hid (Zg.out.now b)
  replace Zx := hid (Zx.out.now b)
  replace Zy := hid (Zy.out.now b)
  replace Pg := hid (Pg.out.step b)
  replace Px := hid (Px.out.step b)
  replace Py := hid (Py.out.step b)
  replace G := hid (below_step G.out b)
  have lz10 := (show Below _ _ _ from b).size
  clear b
  refine wpAnyT_take (i := 0) (oi := { dst := some 11, op := Op.load 25 (Operand.tmp 1), type := 25, pos := "law.go:122", after := #[], guard := none }) (v := (.agg #[(.bool ng), (.slice adg xg.length qg)])) rfl (by kernel_rfl) (fun _ _ _ h => h) (Or.inl ⟨by rfl, ?_⟩) ⟨Pg.out.c0, Pg.out.c1, Px.out.c0, Px.out.c1, Py.out.c0, Py.out.c1⟩ ?_
  · intro w hSw
    (try dsimp only at hSw)
    go_simp
  simp only [Act.put, List.setIfInBounds_toArray, List.set_cons_zero, List.set_cons_succ]
  refine wpAnyT_one (i := 1) (o := { dst := some 12, op := Op.call { callee := Callee.value (Operand.func 15), args := #[Operand.const (Value.int IntKind.u64 6)], argTypes := #[37] }, type := 25, pos := "law.go:122", after := #[], guard := none }) (by kernel_rfl) rfl (fun K hK => ?_)
  go_simp
  go_at_call 15
  refine (of6c (n := 6) (by decide) (by decide) _).mono ?_
  rintro e w11 ⟨r0, rfl, m0, b⟩
  obtain ⟨nu, xu, adu, qu, rfl, -, -, -, -, -⟩ := id m0
  replace Zp := hid (Zp.out.now b)
  replace Zq := hid (Zq.out.now b)
  replace Zg := hid (Zg.out.now b)
  replace Zx := hid (Zx.out.now b)
  replace Zy := hid (Zy.out.now b)
  replace Pg := hid (Pg.out.step b)
  replace Px := hid (Px.out.step b)
  replace Py := hid (Py.out.step b)
  replace G := hid (below_step G.out b)
  have lz12 := (show Below _ _ _ from b).size
  have Zu := hid m0
  clear b m0
  refine hK.out _ _ (fun _ => ⟨Pg.out.c0, Pg.out.c1, Px.out.c0, Px.out.c1, Py.out.c0, Py.out.c1⟩) ?_
  clear hK
  refine wpAnyT_one (i := 2) (o := { dst := some 13, op := Op.call { callee := Callee.value (Operand.func 9), args := #[Operand.tmp 11, Operand.tmp 12], argTypes := #[25, 25] }, type := 4, pos := "law.go:122", after := #[{ on := 0, ground := Ground.data }, { on := 1, ground := Ground.data }, { on := 1, ground := Ground.chain }], guard := none }) (by kernel_rfl) rfl (fun K hK => ?_)
  go_simp
  go_at_call 9
  refine (alike6_yes Zg.out.zc Zu.out rfl).mono ?_
  rintro e w13 ⟨rfl, b⟩
  replace Zp := hid (Zp.out.now b)
  replace Zq := hid (Zq.out.now b)
  replace Zg := hid (Zg.out.now b)
  replace Zx := hid (Zx.out.now b)
  replace Zy := hid (Zy.out.now b)
  replace Zu := hid (Zu.out.now b)
  replace Pg := hid (Pg.out.step b)
  replace Px := hid (Px.out.step b)
  replace Py := hid (Py.out.step b)
  replace G := hid (below_step G.out b)
  have lz14 := (show Below _ _ _ from b).size
  clear b 
  refine hK.out _ _ (fun _ => ⟨Pg.out.c0, Pg.out.c1, Px.out.c0, Px.out.c1, Py.out.c0, Py.out.c1⟩) ?_
  clear hK
  refine wpAnyT_take (i := 3) (oi := { dst := some 14, op := Op.move (Operand.tmp 13), type := 4, pos := "law.go:122", after := #[{ on := 2, ground := Ground.data }, { on := 2, ground := Ground.chain }], guard := none }) (v := (.bool true)) rfl (by kernel_rfl) (fun _ _ _ h => h) (Or.inl ⟨by rfl, ?_⟩) ⟨Pg.out.c0, Pg.out.c1, Px.out.c0, Px.out.c1, Py.out.c0, Py.out.c1⟩ ?_
  · intro w hSw
    (try dsimp only at hSw)
    go_simp
  simp only [Act.put, List.setIfInBounds_toArray, List.set_cons_zero, List.set_cons_succ]
  refine wpAnyT_take (i := 4) (oi := { dst := some 15, op := Op.load 25 (Operand.tmp 2), type := 25, pos := "law.go:122", after := #[{ on := 3, ground := Ground.guard }], guard := some (3, true) }) (v := (.agg #[(.bool nx), (.slice adx xx.length qx)])) rfl (by kernel_rfl) (fun _ _ _ h => h) (Or.inl ⟨by rfl, ?_⟩) ⟨Pg.out.c0, Pg.out.c1, Px.out.c0, Px.out.c1, Py.out.c0, Py.out.c1⟩ ?_
  · intro w hSw
    (try dsimp only at hSw)
    go_simp
  simp only [Act.put, List.setIfInBounds_toArray, List.set_cons_zero, List.set_cons_succ]
  refine wpAnyT_one (i := 5) (o := { dst := some 16, op := Op.call { callee := Callee.value (Operand.func 15), args := #[Operand.const (Value.int IntKind.u64 2)], argTypes := #[37] }, type := 25, pos := "law.go:122", after := #[{ on := 3, ground := Ground.chain }, { on := 3, ground := Ground.guard }], guard := some (3, true) }) (by kernel_rfl) rfl (fun K hK => ?_)
  go_simp
  go_at_call 15
  refine (of6c (n := 2) (by decide) (by decide) _).mono ?_
  rintro e w15 ⟨r0, rfl, m0, b⟩
  obtain ⟨nv, xv, adv, qv, rfl, -, -, -, -, -⟩ := id m0
  replace Zp := hid (Zp.out.now b)
  replace Zq := hid (Zq.out.now b)
  replace Zg := hid (Zg.out.now b)
  replace Zx := hid (Zx.out.now b)
  replace Zy := hid (Zy.out.now b)
  replace Zu := hid (Zu.out.now b)
  replace Pg := hid (Pg.out.step b)
  replace Px := hid (Px.out.step b)
  replace Py := hid (Py.out.step b)
  replace G := hid (below_step G.out b)
  have lz16 := (show Below _ _ _ from b).size
  have Zv := hid m0
  clear b m0
  refine hK.out _ _ (fun _ => ⟨Pg.out.c0, Pg.out.c1, Px.out.c0, Px.out.c1, Py.out.c0, Py.out.c1⟩) ?_
  clear hK
  refine wpAnyT_one (i := 6) (o := { dst := some 17, op := Op.call { callee := Callee.value (Operand.func 9), args := #[Operand.tmp 15, Operand.tmp 16], argTypes := #[25, 25] }, type := 4, pos := "law.go:122", after := #[{ on := 4, ground := Ground.data }, { on := 5, ground := Ground.data }, { on := 5, ground := Ground.chain }, { on := 3, ground := Ground.guard }], guard := some (3, true) }) (by kernel_rfl) rfl (fun K hK => ?_)
  go_simp
  go_at_call 9
  refine (alike6_yes Zx.out.zc Zv.out rfl).mono ?_
  rintro e w17 ⟨rfl, b⟩
  replace Zp := hid (Zp.out.now b)
  replace Zq := hid (Zq.out.now b)
  replace Zg := hid (Zg.out.now b)
  replace Zx := hid (Zx.out.now b)
  replace Zy := hid (Zy.out.now b)
  replace Zu := hid (Zu.out.now b)
  replace Zv := hid (Zv.out.now b)
  replace Pg := hid (Pg.out.step b)
  replace Px := hid (Px.out.step b)
  replace Py := hid (Py.out.step b)
  replace G := hid (below_step G.out b)
  have lz18 := (show Below _ _ _ from b).size
  clear b 
  refine hK.out _ _ (fun _ => ⟨Pg.out.c0, Pg.out.c1, Px.out.c0, Px.out.c1, Py.out.c0, Py.out.c1⟩) ?_
  clear hK
  refine wpAnyT_take (i := 7) (oi := { dst := some 18, op := Op.pick (Operand.tmp 14) (Operand.tmp 17) (Operand.const (Value.bool false)), type := 4, pos := "law.go:122", after := #[{ on := 3, ground := Ground.data }, { on := 6, ground := Ground.data }], guard := none }) (v := (.bool true)) rfl (by kernel_rfl) (fun _ _ _ h => h) (Or.inl ⟨by rfl, ?_⟩) ⟨Pg.out.c0, Pg.out.c1, Px.out.c0, Px.out.c1, Py.out.c0, Py.out.c1⟩ ?_
  · intro w hSw
    (try dsimp only at hSw)
    go_simp
  simp only [Act.put, List.setIfInBounds_toArray, List.set_cons_zero, List.set_cons_succ]
  refine wpAnyT_take (i := 8) (oi := { dst := some 19, op := Op.move (Operand.tmp 18), type := 4, pos := "law.go:122", after := #[{ on := 7, ground := Ground.data }, { on := 6, ground := Ground.chain }], guard := none }) (v := (.bool true)) rfl (by kernel_rfl) (fun _ _ _ h => h) (Or.inl ⟨by rfl, ?_⟩) ⟨Pg.out.c0, Pg.out.c1, Px.out.c0, Px.out.c1, Py.out.c0, Py.out.c1⟩ ?_
  · intro w hSw
    (try dsimp only at hSw)
    go_simp
  simp only [Act.put, List.setIfInBounds_toArray, List.set_cons_zero, List.set_cons_succ]
  refine wpAnyT_take (i := 9) (oi := { dst := some 20, op := Op.load 25 (Operand.tmp 3), type := 25, pos := "law.go:122", after := #[{ on := 8, ground := Ground.guard }], guard := some (8, true) }) (v := (.agg #[(.bool ny), (.slice ady xy.length qy)])) rfl (by kernel_rfl) (fun _ _ _ h => h) (Or.inl ⟨by rfl, ?_⟩) ⟨Pg.out.c0, Pg.out.c1, Px.out.c0, Px.out.c1, Py.out.c0, Py.out.c1⟩ ?_
  · intro w hSw
    (try dsimp only at hSw)
    go_simp
  simp only [Act.put, List.setIfInBounds_toArray, List.set_cons_zero, List.set_cons_succ]
  refine wpAnyT_one (i := 10) (o := { dst := some 21, op := Op.buildSlice 23 1 #[(0, Operand.const (Value.int IntKind.u64 1))], type := 23, pos := "law.go:122", after := #[{ on := 8, ground := Ground.guard }], guard := some (8, true) }) (by kernel_rfl) rfl (fun K hK => ?_)
  go_simp
  obtain ⟨V19, hW⟩ : ∃ V19, w17.alloc (.cells #[.int .u64 1] 37) = V19 := ⟨_, rfl⟩
  obtain ⟨kW, sz19⟩ := alloc1 w17 (.cells #[.int .u64 1] 37)
  rw [hW] at kW sz19
  replace Zp := hid (Zp.out.now kW)
  replace Zq := hid (Zq.out.now kW)
  replace Zg := hid (Zg.out.now kW)
  replace Zx := hid (Zx.out.now kW)
  replace Zy := hid (Zy.out.now kW)
  replace Zu := hid (Zu.out.now kW)
  replace Zv := hid (Zv.out.now kW)
  replace Pg := hid (Pg.out.step kW)
  replace Px := hid (Px.out.step kW)
  replace Py := hid (Py.out.step kW)
  replace G := hid (below_step G.out kW)
  have lz20 := (show Below _ _ _ from kW).size
  have Zl : Hid (Zc V19 (.agg #[(.bool true), (.slice (some ⟨w17.heap.size, 0, none⟩) 1 1)]) (iv true [1]) 1) := by unfold Hid; rw [← hW]; exact lit_zc w17 (by decide) (by decide)
  rw [hW]
  clear hW kW
  refine hK.out _ _ (fun _ => ⟨Pg.out.c0, Pg.out.c1, Px.out.c0, Px.out.c1, Py.out.c0, Py.out.c1⟩) ?_
  clear hK
  try simp only [Act.put]
  refine wpAnyT_take (i := 11) (oi := { dst := some 22, op := Op.build 25 #[(0, Operand.const (Value.bool true)), (1, Operand.tmp 21)], type := 25, pos := "law.go:122", after := #[{ on := 10, ground := Ground.data }, { on := 8, ground := Ground.guard }], guard := some (8, true) }) (v := (.agg #[.bool true, (.slice (some ⟨w17.heap.size, 0, none⟩) 1 1)])) rfl (by kernel_rfl) (fun _ _ _ h => h) (Or.inl ⟨by rfl, ?_⟩) ⟨Pg.out.c0, Pg.out.c1, Px.out.c0, Px.out.c1, Py.out.c0, Py.out.c1⟩ ?_
  · intro w hSw
    (try dsimp only at hSw)
    go_simp
  simp only [Act.put, List.setIfInBounds_toArray, List.set_cons_zero, List.set_cons_succ]
  refine wpAnyT_one (i := 12) (o := { dst := some 23, op := Op.call { callee := Callee.value (Operand.func 9), args := #[Operand.tmp 20, Operand.tmp 22], argTypes := #[25, 25] }, type := 4, pos := "law.go:122", after := #[{ on := 9, ground := Ground.data }, { on := 11, ground := Ground.data }, { on := 8, ground := Ground.chain }, { on := 8, ground := Ground.guard }], guard := some (8, true) }) (by kernel_rfl) rfl (fun K hK => ?_)
  go_simp
  go_at_call 9
  refine (alike6_yes Zy.out.zc Zl.out (by simp [iv, val])).mono ?_
  rintro e w21 ⟨rfl, b⟩
  replace Zp := hid (Zp.out.now b)
  replace Zq := hid (Zq.out.now b)
  replace Zg := hid (Zg.out.now b)
  replace Zx := hid (Zx.out.now b)
  replace Zy := hid (Zy.out.now b)
  replace Zu := hid (Zu.out.now b)
  replace Zv := hid (Zv.out.now b)
  replace Zl := hid (Zl.out.now b)
  replace Pg := hid (Pg.out.step b)
  replace Px := hid (Px.out.step b)
  replace Py := hid (Py.out.step b)
  replace G := hid (below_step G.out b)
  have lz22 := (show Below _ _ _ from b).size
  clear b 
  refine hK.out _ _ (fun _ => ⟨Pg.out.c0, Pg.out.c1, Px.out.c0, Px.out.c1, Py.out.c0, Py.out.c1⟩) ?_
  clear hK
  refine wpAnyT_take (i := 13) (oi := { dst := some 24, op := Op.pick (Operand.tmp 19) (Operand.tmp 23) (Operand.const (Value.bool false)), type := 4, pos := "law.go:122", after := #[{ on := 8, ground := Ground.data }, { on := 12, ground := Ground.data }], guard := none }) (v := (.bool true)) rfl (by kernel_rfl) (fun _ _ _ h => h) (Or.inl ⟨by rfl, ?_⟩) ⟨Pg.out.c0, Pg.out.c1, Px.out.c0, Px.out.c1, Py.out.c0, Py.out.c1⟩ ?_
  · intro w hSw
    (try dsimp only at hSw)
    go_simp
  simp only [Act.put, List.setIfInBounds_toArray, List.set_cons_zero, List.set_cons_succ]
  refine wpAnyT_one (i := 14) (o := { dst := some 0, op := Op.assign (Operand.tmp 24), type := 4, pos := "law.go:122", after := #[{ on := 13, ground := Ground.data }, { on := 12, ground := Ground.chain }, { on := 0, ground := Ground.phase }, { on := 1, ground := Ground.phase }, { on := 2, ground := Ground.phase }, { on := 3, ground := Ground.phase }, { on := 4, ground := Ground.phase }, { on := 5, ground := Ground.phase }, { on := 6, ground := Ground.phase }, { on := 7, ground := Ground.phase }, { on := 8, ground := Ground.phase }, { on := 9, ground := Ground.phase }, { on := 10, ground := Ground.phase }, { on := 11, ground := Ground.phase }, { on := 12, ground := Ground.phase }, { on := 13, ground := Ground.phase }], guard := none }) (by kernel_rfl) rfl (fun K hK => ?_)
  go_simp
  refine hK.out _ _ (fun h => absurd h (by decide)) ?_
  clear hK
  try simp only [Act.put]
  refine wpAnyT_done (by kernel_rfl) ?_ _
  go_wp2
  go_ret
  exact ⟨rfl, G.out⟩
end Go.Proofs.Ytkikiddoiigbjaa
