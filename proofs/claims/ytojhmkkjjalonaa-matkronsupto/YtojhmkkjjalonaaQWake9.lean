/-
  Wake9: wakes.
-/
import Derived.Test.YtojhmkkjjalonaaQLaw9
namespace Go.Proofs.Ytojhmkkjjalonaa
open Go.RowKit
set_option linter.unusedVariables false

theorem mx_one {W : World} {b k : Nat} {x y : Value} {z : Int} (d : Duo W b x y) (h : Zi W (.agg #[x, y]) z k) : Mx W (.agg #[.int .i64 1, .int .i64 1, .slice (some ⟨b, 0, none⟩) 1 1]) 1 1 [z] k := by
  refine ⟨.slice (some ⟨b, 0, none⟩) 1 1, [(x, y)], rfl, ⟨_, _, rfl, by simp, by simp, (fun q => by cases q), .inr ⟨b, 0, rfl, Nat.zero_le _, d.blk, fun j p hp => ?_⟩⟩, ⟨rfl, fun j p q hp hq => ?_⟩, rfl, by omega, by omega⟩
  · match j, hp with
    | 0, hp =>
      simp at hp
      subst hp
      exact ⟨d.c0, d.c1⟩
  · match j, hp, hq with
    | 0, hp, hq =>
      simp at hp hq
      subst hp hq
      exact h
theorem six9 : prodL 1 1 1 [2] [3] = [6] := by decide
theorem Zc.parts {w : World} {v : Value} {z : Int} {k : Nat} (h : Zc w v z k) : ∃ n, ∃ xs : List Int, ∃ a c, v = .agg #[.bool n, .slice a xs.length c] := by
  obtain ⟨n, xs, a, c, e, -⟩ := h
  exact ⟨n, xs, a, c, e⟩
set_option maxHeartbeats 3200000 in
set_option maxRecDepth 100000 in
theorem wakes9 (w : World) : Calls Try.prog 8 #[] w fun e w' => e = .returned (.bool true) ∧ Below w.heap.size w w' := by
  go_enter Try.func8, Try.ntmps8
  go_wp2_with fail
  refine (of9 (n := 2) (by omega) (by omega) w).mono ?_
  rintro e w1 ⟨r1, rfl, m1, b⟩
  obtain ⟨n1, x1, a1, c1, rfl⟩ := m1.parts
  have G1 := hid b
  have M1 := hid m1
  obtain ⟨V1, hV⟩ : ∃ V1, w1.alloc (duo (.bool n1) (.slice a1 x1.length c1)) = V1 := ⟨_, rfl⟩
  obtain ⟨b1, sz1⟩ := alo1 w1 (duo (.bool n1) (.slice a1 x1.length c1))
  rw [hV] at b1
  have P1 : Hid (Duo V1 w1.heap.size (.bool n1) (.slice a1 x1.length c1)) := by unfold Hid; rw [← hV]; exact Duo.new w1 _ _
  have EV := hid hV
  have G2 := hid (below_step G1.out b1)
  have M2 := hid (M1.out.now b1)
  clear m1 b b1 sz1 hV M1
  go_wp2_with fail
  rw [EV.out]
  clear EV
  refine (of9 (n := 3) (by omega) (by omega) V1).mono ?_
  rintro e w2 ⟨r2, rfl, m2, b⟩
  obtain ⟨n2, x2, a2, c2, rfl⟩ := m2.parts
  obtain ⟨V2, hV⟩ : ∃ V2, w2.alloc (duo (.bool n2) (.slice a2 x2.length c2)) = V2 := ⟨_, rfl⟩
  obtain ⟨b1, sz1⟩ := alo1 w2 (duo (.bool n2) (.slice a2 x2.length c2))
  rw [hV] at b1
  have P2 : Hid (Duo V2 w2.heap.size (.bool n2) (.slice a2 x2.length c2)) := by unfold Hid; rw [← hV]; exact Duo.new w2 _ _
  have EV := hid hV
  have G3 := hid (below_step (below_step G2.out b) b1)
  have HM := hid (mul_yes (mx_one ((P1.out.step b).step b1) ((M2.out.now b).now b1).zi) (mx_one P2.out (m2.now b1).zi) (by omega))
  rw [six9] at HM
  clear m2 b b1 sz1 hV
  go_wp2_with fail
  rw [EV.out]
  clear EV
  refine HM.out.mono ?_
  rintro e w3 ⟨v, rfl, hmc, b⟩
  obtain ⟨at_, ps, rfl, p1, p2, -, -, -⟩ := hmc
  obtain ⟨am, cm, rfl, hcm, -, -, hfm⟩ := p1.form
  have hpl : ps.length = 1 := p2.1
  obtain ⟨bm, om, rfl, -, -⟩ := hfm (fun e => by rw [e] at hpl; simp at hpl)
  obtain ⟨nf, xf, af, qf, l0, l1, zf⟩ := Zcs.at9 p1 p2 (i := 0) (by simp)
  rw [hpl] at hcm ⊢
  simp only [Nat.zero_mul, Nat.add_zero, List.getElem_cons_zero] at l0 l1 zf
  obtain ⟨V3, hV⟩ : ∃ V3, w3.alloc (.cells #[.int .i64 1, .int .i64 1, .slice (some ⟨bm, om, none⟩) 1 cm] 24) = V3 := ⟨_, rfl⟩
  obtain ⟨b1, sz1⟩ := alo1 w3 (.cells #[.int .i64 1, .int .i64 1, .slice (some ⟨bm, om, none⟩) 1 cm] 24)
  rw [hV] at b1
  have PM : Hid (Cel V3 w3.heap.size 24 [.int .i64 1, .int .i64 1, .slice (some ⟨bm, om, none⟩) 1 cm]) := by unfold Hid; rw [← hV]; exact Cel.new w3 _ _
  have EV := hid hV
  have G := hid (below_step (below_step G3.out b) b1)
  have ZF := hid (zf.now b1)
  have k3 := cnow b1 l0
  have k4 := cnow b1 l1
  have k0 := PM.out.at (i := 0) rfl
  have k1 := PM.out.at (i := 1) rfl
  have k2 := PM.out.at (i := 2) rfl
  clear HM P1 P2 G1 G2 G3 M2 p1 p2 b b1 sz1 hV hpl l0 l1 zf hfm
  go_wp2_with fail
  rw [EV.out]
  clear EV
  have KB : Hid (∀ w', Below V3.heap.size V3 w' → w'.cell? ⟨w3.heap.size, 0, none⟩ = some (.int .i64 1) ∧ w'.cell? ⟨w3.heap.size, 1, none⟩ = some (.int .i64 1) ∧ w'.cell? ⟨w3.heap.size, 2, none⟩ = some (.slice (some ⟨bm, om, none⟩) 1 cm) ∧ w'.cell? ⟨bm, om, none⟩ = some (.bool nf) ∧ w'.cell? ⟨bm, om + 1, none⟩ = some (.slice af xf.length qf)) := fun w' h => ⟨cnow h k0, cnow h k1, cnow h k2, cnow h k3, cnow h k4⟩
  refine wp_region_tail (fun w' => w'.cell? ⟨w3.heap.size, 0, none⟩ = some (.int .i64 1) ∧ w'.cell? ⟨w3.heap.size, 1, none⟩ = some (.int .i64 1) ∧ w'.cell? ⟨w3.heap.size, 2, none⟩ = some (.slice (some ⟨bm, om, none⟩) 1 cm) ∧ w'.cell? ⟨bm, om, none⟩ = some (.bool nf) ∧ w'.cell? ⟨bm, om + 1, none⟩ = some (.slice af xf.length qf)) 26 (by kernel_rfl) ?_
  obtain ⟨D1, hD⟩ : ∃ D1, V3.drew = D1 := ⟨_, rfl⟩
  have GB : Hid (Below V3.heap.size V3 D1) := by unfold Hid; rw [← hD]; exact (Below.refl _ _).drew
  rw [hD]
  clear hD
  refine wpAnyT_take (i := 0) (oi := { dst := some 13, op := Op.move (Operand.tmp 2), type := 27, pos := "law.go:238", after := #[], guard := none }) (v := (.int .i64 0)) rfl (by kernel_rfl) (fun _ _ _ h => h) (Or.inl ⟨by rfl, ?_⟩) (KB.out _ GB.out) ?_
  · intro w hSw
    (try dsimp only at hSw)
    go_simp
  simp only [Act.put, List.setIfInBounds_toArray, List.set_cons_zero, List.set_cons_succ]
  refine wpAnyT_take (i := 1) (oi := { dst := some 14, op := Op.binOp BinOp.eql 27 (Operand.tmp 13) (Operand.const (Value.int IntKind.i64 0)) 27, type := 4, pos := "law.go:238", after := #[{ on := 0, ground := Ground.data }], guard := none }) (v := (.bool true)) rfl (by kernel_rfl) (fun _ _ _ h => h) (Or.inl ⟨by rfl, ?_⟩) (KB.out _ GB.out) ?_
  · intro w hSw
    (try dsimp only at hSw)
    go_simp
  simp only [Act.put, List.setIfInBounds_toArray, List.set_cons_zero, List.set_cons_succ]
  refine wpAnyT_take (i := 2) (oi := { dst := some 15, op := Op.move (Operand.tmp 14), type := 4, pos := "law.go:238", after := #[{ on := 1, ground := Ground.data }], guard := none }) (v := (.bool true)) rfl (by kernel_rfl) (fun _ _ _ h => h) (Or.inl ⟨by rfl, ?_⟩) (KB.out _ GB.out) ?_
  · intro w hSw
    (try dsimp only at hSw)
    go_simp
  simp only [Act.put, List.setIfInBounds_toArray, List.set_cons_zero, List.set_cons_succ]
  refine wpAnyT_take (i := 3) (oi := { dst := some 16, op := Op.fieldAddr 24 (Operand.tmp 1) 0, type := 0, pos := "law.go:238", after := #[{ on := 2, ground := Ground.guard }], guard := some (2, true) }) (v := (.pointer (some ⟨w3.heap.size, 0, none⟩))) rfl (by kernel_rfl) (fun _ _ _ h => h) (Or.inl ⟨by rfl, ?_⟩) (KB.out _ GB.out) ?_
  · intro w hSw
    (try dsimp only at hSw)
    go_simp
  simp only [Act.put, List.setIfInBounds_toArray, List.set_cons_zero, List.set_cons_succ]
  refine wpAnyT_take (i := 4) (oi := { dst := some 17, op := Op.load 3 (Operand.tmp 16), type := 3, pos := "law.go:238", after := #[{ on := 3, ground := Ground.data }, { on := 2, ground := Ground.guard }], guard := some (2, true) }) (v := (.int .i64 1)) rfl (by kernel_rfl) (fun _ _ _ h => h) (Or.inl ⟨by rfl, ?_⟩) (KB.out _ GB.out) ?_
  · intro w hSw
    (try dsimp only at hSw)
    go_simp
  simp only [Act.put, List.setIfInBounds_toArray, List.set_cons_zero, List.set_cons_succ]
  refine wpAnyT_take (i := 5) (oi := { dst := some 18, op := Op.binOp BinOp.eql 3 (Operand.tmp 17) (Operand.const (Value.int IntKind.i64 1)) 3, type := 4, pos := "law.go:238", after := #[{ on := 4, ground := Ground.data }, { on := 2, ground := Ground.guard }], guard := some (2, true) }) (v := (.bool true)) rfl (by kernel_rfl) (fun _ _ _ h => h) (Or.inl ⟨by rfl, ?_⟩) (KB.out _ GB.out) ?_
  · intro w hSw
    (try dsimp only at hSw)
    go_simp
  simp only [Act.put, List.setIfInBounds_toArray, List.set_cons_zero, List.set_cons_succ]
  refine wpAnyT_take (i := 6) (oi := { dst := some 19, op := Op.pick (Operand.tmp 15) (Operand.tmp 18) (Operand.const (Value.bool false)), type := 4, pos := "law.go:238", after := #[{ on := 2, ground := Ground.data }, { on := 5, ground := Ground.data }], guard := none }) (v := (.bool true)) rfl (by kernel_rfl) (fun _ _ _ h => h) (Or.inl ⟨by rfl, ?_⟩) (KB.out _ GB.out) ?_
  · intro w hSw
    (try dsimp only at hSw)
    go_simp
  simp only [Act.put, List.setIfInBounds_toArray, List.set_cons_zero, List.set_cons_succ]
  refine wpAnyT_take (i := 7) (oi := { dst := some 20, op := Op.move (Operand.tmp 19), type := 4, pos := "law.go:238", after := #[{ on := 6, ground := Ground.data }, { on := 2, ground := Ground.chain }], guard := none }) (v := (.bool true)) rfl (by kernel_rfl) (fun _ _ _ h => h) (Or.inl ⟨by rfl, ?_⟩) (KB.out _ GB.out) ?_
  · intro w hSw
    (try dsimp only at hSw)
    go_simp
  simp only [Act.put, List.setIfInBounds_toArray, List.set_cons_zero, List.set_cons_succ]
  refine wpAnyT_take (i := 8) (oi := { dst := some 21, op := Op.fieldAddr 24 (Operand.tmp 1) 1, type := 0, pos := "law.go:238", after := #[{ on := 7, ground := Ground.guard }], guard := some (7, true) }) (v := (.pointer (some ⟨w3.heap.size, 1, none⟩))) rfl (by kernel_rfl) (fun _ _ _ h => h) (Or.inl ⟨by rfl, ?_⟩) (KB.out _ GB.out) ?_
  · intro w hSw
    (try dsimp only at hSw)
    go_simp
  simp only [Act.put, List.setIfInBounds_toArray, List.set_cons_zero, List.set_cons_succ]
  refine wpAnyT_take (i := 9) (oi := { dst := some 22, op := Op.load 3 (Operand.tmp 21), type := 3, pos := "law.go:238", after := #[{ on := 8, ground := Ground.data }, { on := 7, ground := Ground.guard }], guard := some (7, true) }) (v := (.int .i64 1)) rfl (by kernel_rfl) (fun _ _ _ h => h) (Or.inl ⟨by rfl, ?_⟩) (KB.out _ GB.out) ?_
  · intro w hSw
    (try dsimp only at hSw)
    go_simp
  simp only [Act.put, List.setIfInBounds_toArray, List.set_cons_zero, List.set_cons_succ]
  refine wpAnyT_take (i := 10) (oi := { dst := some 23, op := Op.binOp BinOp.eql 3 (Operand.tmp 22) (Operand.const (Value.int IntKind.i64 1)) 3, type := 4, pos := "law.go:238", after := #[{ on := 9, ground := Ground.data }, { on := 7, ground := Ground.guard }], guard := some (7, true) }) (v := (.bool true)) rfl (by kernel_rfl) (fun _ _ _ h => h) (Or.inl ⟨by rfl, ?_⟩) (KB.out _ GB.out) ?_
  · intro w hSw
    (try dsimp only at hSw)
    go_simp
  simp only [Act.put, List.setIfInBounds_toArray, List.set_cons_zero, List.set_cons_succ]
  refine wpAnyT_take (i := 11) (oi := { dst := some 24, op := Op.pick (Operand.tmp 20) (Operand.tmp 23) (Operand.const (Value.bool false)), type := 4, pos := "law.go:238", after := #[{ on := 7, ground := Ground.data }, { on := 10, ground := Ground.data }], guard := none }) (v := (.bool true)) rfl (by kernel_rfl) (fun _ _ _ h => h) (Or.inl ⟨by rfl, ?_⟩) (KB.out _ GB.out) ?_
  · intro w hSw
    (try dsimp only at hSw)
    go_simp
  simp only [Act.put, List.setIfInBounds_toArray, List.set_cons_zero, List.set_cons_succ]
  refine wpAnyT_take (i := 12) (oi := { dst := some 25, op := Op.move (Operand.tmp 24), type := 4, pos := "law.go:238", after := #[{ on := 11, ground := Ground.data }, { on := 7, ground := Ground.chain }], guard := none }) (v := (.bool true)) rfl (by kernel_rfl) (fun _ _ _ h => h) (Or.inl ⟨by rfl, ?_⟩) (KB.out _ GB.out) ?_
  · intro w hSw
    (try dsimp only at hSw)
    go_simp
  simp only [Act.put, List.setIfInBounds_toArray, List.set_cons_zero, List.set_cons_succ]
  refine wpAnyT_take (i := 13) (oi := { dst := some 26, op := Op.fieldAddr 24 (Operand.tmp 1) 2, type := 0, pos := "law.go:238", after := #[{ on := 12, ground := Ground.guard }], guard := some (12, true) }) (v := (.pointer (some ⟨w3.heap.size, 2, none⟩))) rfl (by kernel_rfl) (fun _ _ _ h => h) (Or.inl ⟨by rfl, ?_⟩) (KB.out _ GB.out) ?_
  · intro w hSw
    (try dsimp only at hSw)
    go_simp
  simp only [Act.put, List.setIfInBounds_toArray, List.set_cons_zero, List.set_cons_succ]
  refine wpAnyT_take (i := 14) (oi := { dst := some 27, op := Op.load 22 (Operand.tmp 26), type := 22, pos := "law.go:238", after := #[{ on := 13, ground := Ground.data }, { on := 12, ground := Ground.guard }], guard := some (12, true) }) (v := (.slice (some ⟨bm, om, none⟩) 1 cm)) rfl (by kernel_rfl) (fun _ _ _ h => h) (Or.inl ⟨by rfl, ?_⟩) (KB.out _ GB.out) ?_
  · intro w hSw
    (try dsimp only at hSw)
    go_simp
  simp only [Act.put, List.setIfInBounds_toArray, List.set_cons_zero, List.set_cons_succ]
  refine wpAnyT_take (i := 15) (oi := { dst := some 28, op := Op.call { callee := Callee.builtin Builtin.len, args := #[Operand.tmp 27], argTypes := #[22] }, type := 3, pos := "law.go:238", after := #[{ on := 14, ground := Ground.data }, { on := 12, ground := Ground.guard }], guard := some (12, true) }) (v := (.int .i64 1)) rfl (by kernel_rfl) (fun _ _ _ h => h) (Or.inl ⟨by rfl, ?_⟩) (KB.out _ GB.out) ?_
  · intro w hSw
    (try dsimp only at hSw)
    go_simp
  simp only [Act.put, List.setIfInBounds_toArray, List.set_cons_zero, List.set_cons_succ]
  refine wpAnyT_take (i := 16) (oi := { dst := some 29, op := Op.binOp BinOp.eql 3 (Operand.tmp 28) (Operand.const (Value.int IntKind.i64 1)) 3, type := 4, pos := "law.go:238", after := #[{ on := 15, ground := Ground.data }, { on := 12, ground := Ground.guard }], guard := some (12, true) }) (v := (.bool true)) rfl (by kernel_rfl) (fun _ _ _ h => h) (Or.inl ⟨by rfl, ?_⟩) (KB.out _ GB.out) ?_
  · intro w hSw
    (try dsimp only at hSw)
    go_simp
  simp only [Act.put, List.setIfInBounds_toArray, List.set_cons_zero, List.set_cons_succ]
  refine wpAnyT_take (i := 17) (oi := { dst := some 30, op := Op.pick (Operand.tmp 25) (Operand.tmp 29) (Operand.const (Value.bool false)), type := 4, pos := "law.go:238", after := #[{ on := 12, ground := Ground.data }, { on := 16, ground := Ground.data }], guard := none }) (v := (.bool true)) rfl (by kernel_rfl) (fun _ _ _ h => h) (Or.inl ⟨by rfl, ?_⟩) (KB.out _ GB.out) ?_
  · intro w hSw
    (try dsimp only at hSw)
    go_simp
  simp only [Act.put, List.setIfInBounds_toArray, List.set_cons_zero, List.set_cons_succ]
  refine wpAnyT_take (i := 18) (oi := { dst := some 31, op := Op.move (Operand.tmp 30), type := 4, pos := "law.go:238", after := #[{ on := 17, ground := Ground.data }, { on := 12, ground := Ground.chain }], guard := none }) (v := (.bool true)) rfl (by kernel_rfl) (fun _ _ _ h => h) (Or.inl ⟨by rfl, ?_⟩) (KB.out _ GB.out) ?_
  · intro w hSw
    (try dsimp only at hSw)
    go_simp
  simp only [Act.put, List.setIfInBounds_toArray, List.set_cons_zero, List.set_cons_succ]
  refine wpAnyT_take (i := 19) (oi := { dst := some 32, op := Op.fieldAddr 24 (Operand.tmp 1) 2, type := 0, pos := "law.go:238", after := #[{ on := 18, ground := Ground.guard }], guard := some (18, true) }) (v := (.pointer (some ⟨w3.heap.size, 2, none⟩))) rfl (by kernel_rfl) (fun _ _ _ h => h) (Or.inl ⟨by rfl, ?_⟩) (KB.out _ GB.out) ?_
  · intro w hSw
    (try dsimp only at hSw)
    go_simp
  simp only [Act.put, List.setIfInBounds_toArray, List.set_cons_zero, List.set_cons_succ]
  refine wpAnyT_take (i := 20) (oi := { dst := some 33, op := Op.load 22 (Operand.tmp 32), type := 22, pos := "law.go:238", after := #[{ on := 19, ground := Ground.data }, { on := 18, ground := Ground.guard }], guard := some (18, true) }) (v := (.slice (some ⟨bm, om, none⟩) 1 cm)) rfl (by kernel_rfl) (fun _ _ _ h => h) (Or.inl ⟨by rfl, ?_⟩) (KB.out _ GB.out) ?_
  · intro w hSw
    (try dsimp only at hSw)
    go_simp
  simp only [Act.put, List.setIfInBounds_toArray, List.set_cons_zero, List.set_cons_succ]
  refine wpAnyT_take (i := 21) (oi := { dst := some 34, op := Op.indexAddr 22 (Operand.tmp 33) (Operand.const (Value.int IntKind.i64 0)), type := 0, pos := "law.go:238", after := #[{ on := 20, ground := Ground.data }, { on := 18, ground := Ground.guard }], guard := some (18, true) }) (v := (.pointer (some ⟨bm, om, none⟩))) rfl (by kernel_rfl) (fun _ _ _ h => h) (Or.inl ⟨by rfl, ?_⟩) (KB.out _ GB.out) ?_
  · intro w hSw
    (try dsimp only at hSw)
    go_simp
  simp only [Act.put, List.setIfInBounds_toArray, List.set_cons_zero, List.set_cons_succ]
  refine wpAnyT_take (i := 22) (oi := { dst := some 35, op := Op.load 37 (Operand.tmp 34), type := 37, pos := "law.go:238", after := #[{ on := 21, ground := Ground.data }, { on := 18, ground := Ground.guard }], guard := some (18, true) }) (v := (.agg #[.bool nf, .slice af xf.length qf])) rfl (by kernel_rfl) (fun _ _ _ h => h) (Or.inl ⟨by rfl, ?_⟩) (KB.out _ GB.out) ?_
  · intro w hSw
    (try dsimp only at hSw)
    go_simp
  simp only [Act.put, List.setIfInBounds_toArray, List.set_cons_zero, List.set_cons_succ]
  refine wpAnyT_one (i := 23) (o := { dst := some 36, op := Op.call { callee := Callee.value (Operand.func 26), args := #[Operand.const (Value.int IntKind.u64 6)], argTypes := #[41] }, type := 37, pos := "law.go:238", after := #[{ on := 18, ground := Ground.chain }, { on := 18, ground := Ground.guard }], guard := some (18, true) }) (by kernel_rfl) rfl (fun K hK => ?_)
  go_simp
  go_at_call 26
  refine (of9 (n := 6) (by omega) (by omega) D1).mono ?_
  rintro e w2 ⟨r6, rfl, m6, b⟩
  have lz2 := (show Below _ _ _ from b).size
  replace GB := hid (below_step GB.out b)
  have M6 := hid m6
  obtain ⟨n6, x6, a6, c6, rfl⟩ := m6.parts
  clear m6
  clear b
  refine hK.out _ _ (fun _ => KB.out _ GB.out) ?_
  clear hK
  refine wpAnyT_one (i := 24) (o := { dst := some 37, op := Op.call { callee := Callee.value (Operand.func 19), args := #[Operand.tmp 35, Operand.tmp 36], argTypes := #[37, 37] }, type := 4, pos := "law.go:238", after := #[{ on := 22, ground := Ground.data }, { on := 23, ground := Ground.data }, { on := 23, ground := Ground.chain }, { on := 18, ground := Ground.guard }], guard := some (18, true) }) (by kernel_rfl) rfl (fun K hK => ?_)
  go_simp
  go_at_call 19
  refine (alike9_yes (ZF.out.now GB.out) M6.out rfl).mono ?_
  rintro e w3 ⟨rfl, b⟩
  have lz3 := (show Below _ _ _ from b).size
  replace GB := hid (below_step GB.out b)
  have GF := hid (below_step G.out GB.out)
  clear b
  refine hK.out _ _ (fun _ => KB.out _ GB.out) ?_
  clear hK
  refine wpAnyT_take (i := 25) (oi := { dst := some 38, op := Op.pick (Operand.tmp 31) (Operand.tmp 37) (Operand.const (Value.bool false)), type := 4, pos := "law.go:238", after := #[{ on := 18, ground := Ground.data }, { on := 24, ground := Ground.data }], guard := none }) (v := (.bool true)) rfl (by kernel_rfl) (fun _ _ _ h => h) (Or.inl ⟨by rfl, ?_⟩) (KB.out _ GB.out) ?_
  · intro w hSw
    (try dsimp only at hSw)
    go_simp
  simp only [Act.put, List.setIfInBounds_toArray, List.set_cons_zero, List.set_cons_succ]
  refine wpAnyT_one (i := 26) (o := { dst := some 0, op := Op.assign (Operand.tmp 38), type := 4, pos := "law.go:238", after := #[{ on := 25, ground := Ground.data }, { on := 24, ground := Ground.chain }, { on := 0, ground := Ground.phase }, { on := 1, ground := Ground.phase }, { on := 2, ground := Ground.phase }, { on := 3, ground := Ground.phase }, { on := 4, ground := Ground.phase }, { on := 5, ground := Ground.phase }, { on := 6, ground := Ground.phase }, { on := 7, ground := Ground.phase }, { on := 8, ground := Ground.phase }, { on := 9, ground := Ground.phase }, { on := 10, ground := Ground.phase }, { on := 11, ground := Ground.phase }, { on := 12, ground := Ground.phase }, { on := 13, ground := Ground.phase }, { on := 14, ground := Ground.phase }, { on := 15, ground := Ground.phase }, { on := 16, ground := Ground.phase }, { on := 17, ground := Ground.phase }, { on := 18, ground := Ground.phase }, { on := 19, ground := Ground.phase }, { on := 20, ground := Ground.phase }, { on := 21, ground := Ground.phase }, { on := 22, ground := Ground.phase }, { on := 23, ground := Ground.phase }, { on := 24, ground := Ground.phase }, { on := 25, ground := Ground.phase }], guard := none }) (by kernel_rfl) rfl (fun K hK => ?_)
  go_simp
  refine hK.out _ _ (fun h => absurd h (by decide)) ?_
  clear hK
  try simp only [Act.put]
  refine wpAnyT_done (by kernel_rfl) ?_ _
  clear KB GB G M6 ZF PM
  go_wp2
  go_ret
  exact ⟨rfl, GF.out⟩
end Go.Proofs.Ytojhmkkjjalonaa
