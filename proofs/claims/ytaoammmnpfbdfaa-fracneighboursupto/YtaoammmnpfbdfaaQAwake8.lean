/-
  Awake8: whole and awake of the statements.
-/
import Derived.Test.YtaoammmnpfbdfaaQLaw8
namespace Go.Proofs.Ytaoammmnpfbdfaa
open Go.RowKit
set_option linter.unusedVariables false

/-- The words 6 and 0. -/
theorem two_words (w : World) : Zi (w.alloc (.cells #[.int .u64 6, .int .u64 0] 52)) (.agg #[.bool true, .slice (some ⟨w.heap.size, 0, none⟩) 2 2]) (-6) 2 :=
  ⟨true, [6, 0], _, _, rfl, lit_last w [6, 0] #[.int .u64 6, .int .u64 0] rfl (wf_word (by omega) (wf_word (by omega) WF.nil)) (by simp) 2 rfl, by simp [iv, val], by simp⟩
set_option maxHeartbeats 6400000 in
set_option maxRecDepth 100000 in
theorem whole8 {n : Int} (h0 : 0 < n) (h1 : n ≤ 18446744073709551615) (w : World) :
    Calls Try.prog 34 #[.int .u64 n] w (GivesC8 w n 1) := by
  obtain ⟨WX, hWX⟩ : ∃ WX, (w.alloc (duo (.bool false) (.slice (some ⟨w.heap.size + 1, 0, none⟩) 1 1))).alloc (.cells #[.int .u64 n] 52) = WX := ⟨_, rfl⟩
  obtain ⟨b0, sz0⟩ := alloc2 w (duo (.bool false) (.slice (some ⟨w.heap.size + 1, 0, none⟩) 1 1)) (.cells #[.int .u64 n] 52)
  rw [hWX] at b0 sz0
  have dX : Duo WX w.heap.size (.bool false) (.slice (some ⟨w.heap.size + 1, 0, none⟩) 1 1) := by rw [← hWX]; exact duo_late (duo_at rfl) _
  have sX : Sl WX.heap.size WX (.slice (some ⟨w.heap.size + 1, 0, none⟩) 1 1) [n] := by
    have := word_one (w.alloc (duo (.bool false) (.slice (some ⟨w.heap.size + 1, 0, none⟩) 1 1))) n ⟨by omega, h1⟩
    rw [hWX] at this
    simpa using this
  have eV : iv false [n] = n := by simp [iv, val]
  have FIN : Hid (Zc WX (.agg #[.bool false, .slice (some ⟨w.heap.size + 1, 0, none⟩) 1 1]) n 1) := ⟨false, [n], _, _, rfl, sX, ⟨sX.1, by simp [wid]; omega⟩, fun e => by simp at e, eV, by simp⟩
  have EW := hid hWX
  have DX := hid dX
  have BX := hid b0
  have q0 : (n == 0) = false := by rw [beq_eq_false_iff_ne]; omega
  clear sX dX eV b0 hWX
  go_enter Try.func34, Try.ntmps34
  go_wp2
  rw [EW.out]
  exact bodyPost_ret (zback Try.results34 DX.out _ (by rfl)) rfl ⟨_, rfl, FIN.out, BX.out⟩
def MetF (W wx : World) (s1 : Value) (N D : Int) (k : Nat) : Prop :=
  ∃ bk n m, ∃ x y : List Int, ∃ a c b d, s1 = .pointer (some ⟨bk, 0, none⟩) ∧ Below W.heap.size W wx ∧ W.heap.size ≤ bk ∧ bk < wx.heap.size ∧ Cel wx bk 26 [.bool n, .slice a x.length c, .bool m, .slice b y.length d] ∧ Zm W.heap.size wx (.agg #[.bool n, .slice a x.length c]) N k ∧ Zm W.heap.size wx (.agg #[.bool m, .slice b y.length d]) D k
set_option maxHeartbeats 6400000 in
set_option maxRecDepth 100000 in
theorem awake8 (w : World) : Calls Try.prog 8 #[] w fun e w' => e = .returned (.bool true) ∧ Below w.heap.size w w' := by
  have G : Hid (Below w.heap.size w w) := Below.refl _ _
  go_enter Try.func8, Try.ntmps8
  go_wp2_with fail
  refine (whole8 (n := 4) (by decide) (by decide) _).mono ?_
  rintro e w1 ⟨r0, rfl, m0, b⟩
  obtain ⟨np, xp, adp, qp, rfl, -, -, -, -, -⟩ := id m0
  replace G := hid (below_step G.out b)
  have lz2 := (show Below _ _ _ from b).size
  have Zp := hid m0
  clear b m0
  go_wp2_with fail
  have Zl := hid (two_words w1)
  obtain ⟨V1, hW⟩ : ∃ V1, w1.alloc (.cells #[.int .u64 6, .int .u64 0] 52) = V1 := ⟨_, rfl⟩
  obtain ⟨kW, szl⟩ := alloc1 w1 (.cells #[.int .u64 6, .int .u64 0] 52)
  rw [hW] at kW szl Zl ⊢
  clear hW
  replace Zp := hid (Zp.out.now kW)
  replace G := hid (below_step G.out kW)
  have lz3 := (show Below _ _ _ from kW).size
  clear kW
  refine (fof_z (k := 2) (Zp.out.zi.more (by decide)) Zl.out (by decide) (by decide)).mono ?_
  rintro e w4 ⟨r0, r1, r2, r3, rfl, m0, m1, b⟩
  obtain ⟨nn, xn, adn, qn, rfl, rfl⟩ := m0.zi.comp
  obtain ⟨nd, xd, add, qd, rfl, rfl⟩ := m1.zi.comp
  replace Zp := hid (Zp.out.now b)
  replace G := hid (below_step G.out b)
  have lz5 := (show Below _ _ _ from b).size
  have Zn := hid m0
  have Zd := hid m1
  clear b m0 m1
  replace Zn : Hid (Zm _ _ _ (-2) 2) := Zn
  replace Zd : Hid (Zm _ _ _ 3 2) := Zd
  clear Zl Zp
  obtain ⟨V6, hW⟩ : ∃ V6, w4.alloc (.cells #[(.bool nn), (.slice adn xn.length qn), (.bool nd), (.slice add xd.length qd)] 26) = V6 := ⟨_, rfl⟩
  obtain ⟨kW, sz6⟩ := alloc1 w4 (.cells #[(.bool nn), (.slice adn xn.length qn), (.bool nd), (.slice add xd.length qd)] 26)
  rw [hW] at kW sz6
  replace Zn := hid (Zn.out.now kW)
  replace Zd := hid (Zd.out.now kW)
  replace G := hid (below_step G.out kW)
  have lz7 := (show Below _ _ _ from kW).size
  have PF : Hid (Cel V6 (w4.heap.size) 26 [(.bool nn), (.slice adn xn.length qn), (.bool nd), (.slice add xd.length qd)]) := by unfold Hid; rw [← hW]; exact cel_at (by simp)
  clear kW
  have q0 : ((0 : Int) == 0) = true := rfl
  have EW := hid hW
  clear hW
  go_wp2_with fail
  rw [EW.out]
  clear EW
  refine wp_region_tail (fun w' => w'.cell? ⟨w4.heap.size, 0, none⟩ = some (.bool nn) ∧ w'.cell? ⟨w4.heap.size, 1, none⟩ = some (.slice adn xn.length qn) ∧ w'.cell? ⟨w4.heap.size, 2, none⟩ = some (.bool nd) ∧ w'.cell? ⟨w4.heap.size, 3, none⟩ = some (.slice add xd.length qd)) 15 (by kernel_rfl) ?_
  obtain ⟨D8, hD⟩ : ∃ D8, V6.drew = D8 := ⟨_, rfl⟩
  have b : Below V6.heap.size V6 D8 := by rw [← hD]; exact (Below.refl _ _).drew
  rw [hD]
  clear hD
  replace Zn := hid (Zn.out.now b)
  replace Zd := hid (Zd.out.now b)
  replace PF := hid (PF.out.step b)
  replace G := hid (below_step G.out b)
  have lz9 := (show Below _ _ _ from b).size
  clear b
  refine wpAnyT_take (i := 0) (oi := { dst := some 10, op := Op.move (Operand.tmp 2), type := 28, pos := "law.go:162", after := #[], guard := none }) (v := (.int .i64 0)) rfl (by kernel_rfl) (fun _ _ _ h => h) (Or.inl ⟨by rfl, ?_⟩) ⟨(PF.out.at (i := 0) rfl), (PF.out.at (i := 1) rfl), (PF.out.at (i := 2) rfl), (PF.out.at (i := 3) rfl)⟩ ?_
  · intro w hSw
    (try dsimp only at hSw)
    go_simp
  simp only [Act.put, List.setIfInBounds_toArray, List.set_cons_zero, List.set_cons_succ]
  refine wpAnyT_take (i := 1) (oi := { dst := some 11, op := Op.binOp BinOp.eql 28 (Operand.tmp 10) (Operand.const (Value.int IntKind.i64 0)) 28, type := 4, pos := "law.go:162", after := #[{ on := 0, ground := Ground.data }], guard := none }) (v := (.bool true)) rfl (by kernel_rfl) (fun _ _ _ h => h) (Or.inl ⟨by rfl, ?_⟩) ⟨(PF.out.at (i := 0) rfl), (PF.out.at (i := 1) rfl), (PF.out.at (i := 2) rfl), (PF.out.at (i := 3) rfl)⟩ ?_
  · intro w hSw
    (try dsimp only at hSw)
    go_simp
  simp only [Act.put, List.setIfInBounds_toArray, List.set_cons_zero, List.set_cons_succ]
  refine wpAnyT_take (i := 2) (oi := { dst := some 12, op := Op.move (Operand.tmp 11), type := 4, pos := "law.go:162", after := #[{ on := 1, ground := Ground.data }], guard := none }) (v := (.bool true)) rfl (by kernel_rfl) (fun _ _ _ h => h) (Or.inl ⟨by rfl, ?_⟩) ⟨(PF.out.at (i := 0) rfl), (PF.out.at (i := 1) rfl), (PF.out.at (i := 2) rfl), (PF.out.at (i := 3) rfl)⟩ ?_
  · intro w hSw
    (try dsimp only at hSw)
    go_simp
  simp only [Act.put, List.setIfInBounds_toArray, List.set_cons_zero, List.set_cons_succ]
  refine wpAnyT_take (i := 3) (oi := { dst := some 13, op := Op.fieldAddr 26 (Operand.tmp 1) 0, type := 0, pos := "law.go:162", after := #[{ on := 2, ground := Ground.guard }], guard := some (2, true) }) (v := (.pointer (some ⟨w4.heap.size, 0, none⟩))) rfl (by kernel_rfl) (fun _ _ _ h => h) (Or.inl ⟨by rfl, ?_⟩) ⟨(PF.out.at (i := 0) rfl), (PF.out.at (i := 1) rfl), (PF.out.at (i := 2) rfl), (PF.out.at (i := 3) rfl)⟩ ?_
  · intro w hSw
    (try dsimp only at hSw)
    go_simp
  simp only [Act.put, List.setIfInBounds_toArray, List.set_cons_zero, List.set_cons_succ]
  refine wpAnyT_take (i := 4) (oi := { dst := some 14, op := Op.load 24 (Operand.tmp 13), type := 24, pos := "law.go:162", after := #[{ on := 3, ground := Ground.data }, { on := 2, ground := Ground.guard }], guard := some (2, true) }) (v := (.agg #[(.bool nn), (.slice adn xn.length qn)])) rfl (by kernel_rfl) (fun _ _ _ h => h) (Or.inl ⟨by rfl, ?_⟩) ⟨(PF.out.at (i := 0) rfl), (PF.out.at (i := 1) rfl), (PF.out.at (i := 2) rfl), (PF.out.at (i := 3) rfl)⟩ ?_
  · intro w hSw
    (try dsimp only at hSw)
    go_simp
  simp only [Act.put, List.setIfInBounds_toArray, List.set_cons_zero, List.set_cons_succ]
  refine wpAnyT_one (i := 5) (o := { dst := some 15, op := Op.buildSlice 22 1 #[(0, Operand.const (Value.int IntKind.u64 2))], type := 22, pos := "law.go:162", after := #[{ on := 2, ground := Ground.guard }], guard := some (2, true) }) (by kernel_rfl) rfl (fun K hK => ?_)
  go_simp
  obtain ⟨V10, hW⟩ : ∃ V10, D8.alloc (.cells #[.int .u64 2] 52) = V10 := ⟨_, rfl⟩
  obtain ⟨kW, sz10⟩ := alloc1 D8 (.cells #[.int .u64 2] 52)
  rw [hW] at kW sz10
  replace Zn := hid (Zn.out.now kW)
  replace Zd := hid (Zd.out.now kW)
  replace PF := hid (PF.out.step kW)
  replace G := hid (below_step G.out kW)
  have lz11 := (show Below _ _ _ from kW).size
  have Zl : Hid (Zc V10 (.agg #[(.bool true), (.slice (some ⟨D8.heap.size, 0, none⟩) 1 1)]) (iv true [2]) 1) := by unfold Hid; rw [← hW]; exact lit_zc8 D8 (by decide) (by decide)
  rw [hW]
  clear hW kW
  refine hK.out _ _ (fun _ => ⟨(PF.out.at (i := 0) rfl), (PF.out.at (i := 1) rfl), (PF.out.at (i := 2) rfl), (PF.out.at (i := 3) rfl)⟩) ?_
  clear hK
  try simp only [Act.put]
  refine wpAnyT_take (i := 6) (oi := { dst := some 16, op := Op.build 24 #[(0, Operand.const (Value.bool true)), (1, Operand.tmp 15)], type := 24, pos := "law.go:162", after := #[{ on := 5, ground := Ground.data }, { on := 2, ground := Ground.guard }], guard := some (2, true) }) (v := (.agg #[.bool true, (.slice (some ⟨D8.heap.size, 0, none⟩) 1 1)])) rfl (by kernel_rfl) (fun _ _ _ h => h) (Or.inl ⟨by rfl, ?_⟩) ⟨(PF.out.at (i := 0) rfl), (PF.out.at (i := 1) rfl), (PF.out.at (i := 2) rfl), (PF.out.at (i := 3) rfl)⟩ ?_
  · intro w hSw
    (try dsimp only at hSw)
    go_simp
  simp only [Act.put, List.setIfInBounds_toArray, List.set_cons_zero, List.set_cons_succ]
  refine wpAnyT_one (i := 7) (o := { dst := some 17, op := Op.call { callee := Callee.value (Operand.func 27), args := #[Operand.tmp 14, Operand.tmp 16], argTypes := #[24, 24] }, type := 4, pos := "law.go:162", after := #[{ on := 4, ground := Ground.data }, { on := 6, ground := Ground.data }, { on := 2, ground := Ground.chain }, { on := 2, ground := Ground.guard }], guard := some (2, true) }) (by kernel_rfl) rfl (fun K hK => ?_)
  go_simp
  go_at_call 27
  refine (alike8_yes Zn.out.zc Zl.out (by simp [iv, val])).mono ?_
  rintro e w12 ⟨rfl, b⟩
  replace Zn := hid (Zn.out.now b)
  replace Zd := hid (Zd.out.now b)
  replace Zl := hid (Zl.out.now b)
  replace PF := hid (PF.out.step b)
  replace G := hid (below_step G.out b)
  have lz13 := (show Below _ _ _ from b).size
  clear b 
  refine hK.out _ _ (fun _ => ⟨(PF.out.at (i := 0) rfl), (PF.out.at (i := 1) rfl), (PF.out.at (i := 2) rfl), (PF.out.at (i := 3) rfl)⟩) ?_
  clear hK
  refine wpAnyT_take (i := 8) (oi := { dst := some 18, op := Op.pick (Operand.tmp 12) (Operand.tmp 17) (Operand.const (Value.bool false)), type := 4, pos := "law.go:162", after := #[{ on := 2, ground := Ground.data }, { on := 7, ground := Ground.data }], guard := none }) (v := (.bool true)) rfl (by kernel_rfl) (fun _ _ _ h => h) (Or.inl ⟨by rfl, ?_⟩) ⟨(PF.out.at (i := 0) rfl), (PF.out.at (i := 1) rfl), (PF.out.at (i := 2) rfl), (PF.out.at (i := 3) rfl)⟩ ?_
  · intro w hSw
    (try dsimp only at hSw)
    go_simp
  simp only [Act.put, List.setIfInBounds_toArray, List.set_cons_zero, List.set_cons_succ]
  refine wpAnyT_take (i := 9) (oi := { dst := some 19, op := Op.move (Operand.tmp 18), type := 4, pos := "law.go:162", after := #[{ on := 8, ground := Ground.data }, { on := 7, ground := Ground.chain }], guard := none }) (v := (.bool true)) rfl (by kernel_rfl) (fun _ _ _ h => h) (Or.inl ⟨by rfl, ?_⟩) ⟨(PF.out.at (i := 0) rfl), (PF.out.at (i := 1) rfl), (PF.out.at (i := 2) rfl), (PF.out.at (i := 3) rfl)⟩ ?_
  · intro w hSw
    (try dsimp only at hSw)
    go_simp
  simp only [Act.put, List.setIfInBounds_toArray, List.set_cons_zero, List.set_cons_succ]
  refine wpAnyT_take (i := 10) (oi := { dst := some 20, op := Op.fieldAddr 26 (Operand.tmp 1) 1, type := 0, pos := "law.go:162", after := #[{ on := 9, ground := Ground.guard }], guard := some (9, true) }) (v := (.pointer (some ⟨w4.heap.size, 2, none⟩))) rfl (by kernel_rfl) (fun _ _ _ h => h) (Or.inl ⟨by rfl, ?_⟩) ⟨(PF.out.at (i := 0) rfl), (PF.out.at (i := 1) rfl), (PF.out.at (i := 2) rfl), (PF.out.at (i := 3) rfl)⟩ ?_
  · intro w hSw
    (try dsimp only at hSw)
    go_simp
  simp only [Act.put, List.setIfInBounds_toArray, List.set_cons_zero, List.set_cons_succ]
  refine wpAnyT_take (i := 11) (oi := { dst := some 21, op := Op.load 24 (Operand.tmp 20), type := 24, pos := "law.go:162", after := #[{ on := 10, ground := Ground.data }, { on := 9, ground := Ground.guard }], guard := some (9, true) }) (v := (.agg #[(.bool nd), (.slice add xd.length qd)])) rfl (by kernel_rfl) (fun _ _ _ h => h) (Or.inl ⟨by rfl, ?_⟩) ⟨(PF.out.at (i := 0) rfl), (PF.out.at (i := 1) rfl), (PF.out.at (i := 2) rfl), (PF.out.at (i := 3) rfl)⟩ ?_
  · intro w hSw
    (try dsimp only at hSw)
    go_simp
  simp only [Act.put, List.setIfInBounds_toArray, List.set_cons_zero, List.set_cons_succ]
  refine wpAnyT_one (i := 12) (o := { dst := some 22, op := Op.call { callee := Callee.value (Operand.func 34), args := #[Operand.const (Value.int IntKind.u64 3)], argTypes := #[52] }, type := 24, pos := "law.go:162", after := #[{ on := 9, ground := Ground.chain }, { on := 9, ground := Ground.guard }], guard := some (9, true) }) (by kernel_rfl) rfl (fun K hK => ?_)
  go_simp
  go_at_call 34
  refine (whole8 (n := 3) (by decide) (by decide) _).mono ?_
  rintro e w14 ⟨r0, rfl, m0, b⟩
  obtain ⟨nu, xu, adu, qu, rfl, -, -, -, -, -⟩ := id m0
  replace Zn := hid (Zn.out.now b)
  replace Zd := hid (Zd.out.now b)
  replace Zl := hid (Zl.out.now b)
  replace PF := hid (PF.out.step b)
  replace G := hid (below_step G.out b)
  have lz15 := (show Below _ _ _ from b).size
  have Zu := hid m0
  clear b m0
  refine hK.out _ _ (fun _ => ⟨(PF.out.at (i := 0) rfl), (PF.out.at (i := 1) rfl), (PF.out.at (i := 2) rfl), (PF.out.at (i := 3) rfl)⟩) ?_
  clear hK
  refine wpAnyT_one (i := 13) (o := { dst := some 23, op := Op.call { callee := Callee.value (Operand.func 27), args := #[Operand.tmp 21, Operand.tmp 22], argTypes := #[24, 24] }, type := 4, pos := "law.go:162", after := #[{ on := 11, ground := Ground.data }, { on := 12, ground := Ground.data }, { on := 12, ground := Ground.chain }, { on := 9, ground := Ground.guard }], guard := some (9, true) }) (by kernel_rfl) rfl (fun K hK => ?_)
  go_simp
  go_at_call 27
  refine (alike8_yes Zd.out.zc Zu.out rfl).mono ?_
  rintro e w16 ⟨rfl, b⟩
  replace Zn := hid (Zn.out.now b)
  replace Zd := hid (Zd.out.now b)
  replace Zl := hid (Zl.out.now b)
  replace Zu := hid (Zu.out.now b)
  replace PF := hid (PF.out.step b)
  replace G := hid (below_step G.out b)
  have lz17 := (show Below _ _ _ from b).size
  clear b 
  refine hK.out _ _ (fun _ => ⟨(PF.out.at (i := 0) rfl), (PF.out.at (i := 1) rfl), (PF.out.at (i := 2) rfl), (PF.out.at (i := 3) rfl)⟩) ?_
  clear hK
  refine wpAnyT_take (i := 14) (oi := { dst := some 24, op := Op.pick (Operand.tmp 19) (Operand.tmp 23) (Operand.const (Value.bool false)), type := 4, pos := "law.go:162", after := #[{ on := 9, ground := Ground.data }, { on := 13, ground := Ground.data }], guard := none }) (v := (.bool true)) rfl (by kernel_rfl) (fun _ _ _ h => h) (Or.inl ⟨by rfl, ?_⟩) ⟨(PF.out.at (i := 0) rfl), (PF.out.at (i := 1) rfl), (PF.out.at (i := 2) rfl), (PF.out.at (i := 3) rfl)⟩ ?_
  · intro w hSw
    (try dsimp only at hSw)
    go_simp
  simp only [Act.put, List.setIfInBounds_toArray, List.set_cons_zero, List.set_cons_succ]
  refine wpAnyT_one (i := 15) (o := { dst := some 0, op := Op.assign (Operand.tmp 24), type := 4, pos := "law.go:162", after := #[{ on := 14, ground := Ground.data }, { on := 13, ground := Ground.chain }, { on := 0, ground := Ground.phase }, { on := 1, ground := Ground.phase }, { on := 2, ground := Ground.phase }, { on := 3, ground := Ground.phase }, { on := 4, ground := Ground.phase }, { on := 5, ground := Ground.phase }, { on := 6, ground := Ground.phase }, { on := 7, ground := Ground.phase }, { on := 8, ground := Ground.phase }, { on := 9, ground := Ground.phase }, { on := 10, ground := Ground.phase }, { on := 11, ground := Ground.phase }, { on := 12, ground := Ground.phase }, { on := 13, ground := Ground.phase }, { on := 14, ground := Ground.phase }], guard := none }) (by kernel_rfl) rfl (fun K hK => ?_)
  go_simp
  refine hK.out _ _ (fun h => absurd h (by decide)) ?_
  clear hK
  try simp only [Act.put]
  refine wpAnyT_done (by kernel_rfl) ?_ _
  go_wp2
  go_ret
  exact ⟨rfl, G.out⟩

end Go.Proofs.Ytaoammmnpfbdfaa
