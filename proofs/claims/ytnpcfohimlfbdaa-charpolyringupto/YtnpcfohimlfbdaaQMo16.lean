/-
  Mo16: charpoly.isMonic, the law's monic, trimmed.
-/
import Derived.Test.YtnpcfohimlfbdaaQVl16
namespace Go.Proofs.Ytnpcfohimlfbdaa
open Go.RowKit
set_option linter.unusedVariables false
set_option linter.unusedSimpArgs false

/-- Is the last one 1? -/
def monB (zs : List Int) : Bool := decide (0 < zs.length ∧ cf zs (zs.length - 1) = 1)
/-- Is there none, or the last one not 0? -/
def trmB (zs : List Int) : Bool := decide (zs.length = 0 ∨ cf zs (zs.length - 1) ≠ 0)
def SaysB (w : World) (q : Bool) (e : Ending) (w' : World) : Prop := e = .returned (.bool q) ∧ Below w.heap.size w w'
theorem cmpI_is (z y : Int) : (cmpI z y == 0) = decide (z = y) := by
  by_cases h : z = y
  · subst h; rw [cmpI_self]; simp
  · rw [decide_eq_false h, beq_eq_false_iff_ne]
    exact fun e => h (cmpI_zero e)
set_option maxHeartbeats 3200000 in
set_option maxRecDepth 100000 in
theorem isMonic_any {w : World} {a : Option Addr} {l c k : Nat} {zs : List Int} (h : Zl w (.slice a l c) zs k) : Calls Try.prog 37 #[.slice a l c] w (SaysB w (monB zs)) := by
  have Z := hid h
  obtain ⟨_, _, e1, hc0, hn0, hf0⟩ := h.form9
  simp only [Value.slice.injEq] at e1
  obtain ⟨rfl, rfl, rfl⟩ := e1
  have F0 := hid hf0
  obtain ⟨l, hl⟩ : ∃ l, zs.length = l := ⟨_, rfl⟩
  have HL := hid hl
  rw [hl] at Z hc0 hn0 ⊢
  clear h hf0 hl
  go_enter Try.func37, Try.ntmps37
  by_cases h0 : l = 0
  · subst h0
    have EB : Hid (monB zs = false) := by unfold Hid monB; rw [HL.out]; simp
    rw [EB.out]
    clear HL EB F0 Z
    go_upto_region 1 with fail
    refine wp_region_tail (fun _ => True) 14 (by kernel_rfl) ?_
    obtain ⟨D61, hD⟩ : ∃ D61, w.drew = D61 := ⟨_, rfl⟩
    have GB : Hid (Below w.heap.size w D61) := by unfold Hid; rw [← hD]; exact (Below.refl _ _).drew
    rw [hD]
    clear hD
    refine wpAnyT_take (i := 0) (oi := { dst := some 3, op := Op.move (Operand.tmp 0), type := 22, pos := "poly.go:99", after := #[], guard := none }) (v := (.slice a 0 c)) rfl (by kernel_rfl) (fun _ _ _ h => h) (Or.inl ⟨by rfl, ?_⟩) (trivial) ?_
    · intro w hSw
      (try dsimp only at hSw)
      go_simp
    simp only [Act.put, List.setIfInBounds_toArray, List.set_cons_zero, List.set_cons_succ]
    refine wpAnyT_take (i := 1) (oi := { dst := some 4, op := Op.call { callee := Callee.builtin Builtin.len, args := #[Operand.tmp 3], argTypes := #[22] }, type := 3, pos := "poly.go:99", after := #[{ on := 0, ground := Ground.data }], guard := none }) (v := (.int .i64 0)) rfl (by kernel_rfl) (fun _ _ _ h => h) (Or.inl ⟨by rfl, ?_⟩) (trivial) ?_
    · intro w hSw
      (try dsimp only at hSw)
      go_simp
    simp only [Act.put, List.setIfInBounds_toArray, List.set_cons_zero, List.set_cons_succ]
    refine wpAnyT_take (i := 2) (oi := { dst := some 5, op := Op.binOp BinOp.gtr 3 (Operand.tmp 4) (Operand.const (Value.int IntKind.i64 0)) 3, type := 4, pos := "poly.go:99", after := #[{ on := 1, ground := Ground.data }], guard := none }) (v := (.bool false)) rfl (by kernel_rfl) (fun _ _ _ h => h) (Or.inl ⟨by rfl, ?_⟩) (trivial) ?_
    · intro w hSw
      (try dsimp only at hSw)
      go_simp
    simp only [Act.put, List.setIfInBounds_toArray, List.set_cons_zero, List.set_cons_succ]
    refine wpAnyT_take (i := 3) (oi := { dst := some 6, op := Op.move (Operand.tmp 5), type := 4, pos := "poly.go:99", after := #[{ on := 2, ground := Ground.data }], guard := none }) (v := (.bool false)) rfl (by kernel_rfl) (fun _ _ _ h => h) (Or.inl ⟨by rfl, ?_⟩) (trivial) ?_
    · intro w hSw
      (try dsimp only at hSw)
      go_simp
    simp only [Act.put, List.setIfInBounds_toArray, List.set_cons_zero, List.set_cons_succ]
    refine wpAnyT_take (i := 4) (oi := { dst := some 7, op := Op.move (Operand.tmp 0), type := 22, pos := "poly.go:99", after := #[{ on := 3, ground := Ground.guard }], guard := some (3, true) }) (v := undef) rfl (by kernel_rfl) (fun _ _ _ h => h) (Or.inr ⟨by rfl, rfl⟩) (trivial) ?_
    simp only [Act.put, List.setIfInBounds_toArray, List.set_cons_zero, List.set_cons_succ]
    refine wpAnyT_take (i := 5) (oi := { dst := some 8, op := Op.move (Operand.tmp 0), type := 22, pos := "poly.go:99", after := #[{ on := 3, ground := Ground.guard }], guard := some (3, true) }) (v := undef) rfl (by kernel_rfl) (fun _ _ _ h => h) (Or.inr ⟨by rfl, rfl⟩) (trivial) ?_
    simp only [Act.put, List.setIfInBounds_toArray, List.set_cons_zero, List.set_cons_succ]
    refine wpAnyT_take (i := 6) (oi := { dst := some 9, op := Op.call { callee := Callee.builtin Builtin.len, args := #[Operand.tmp 8], argTypes := #[22] }, type := 3, pos := "poly.go:99", after := #[{ on := 5, ground := Ground.data }, { on := 3, ground := Ground.guard }], guard := some (3, true) }) (v := undef) rfl (by kernel_rfl) (fun _ _ _ h => h) (Or.inr ⟨by rfl, rfl⟩) (trivial) ?_
    simp only [Act.put, List.setIfInBounds_toArray, List.set_cons_zero, List.set_cons_succ]
    refine wpAnyT_take (i := 7) (oi := { dst := some 10, op := Op.binOp BinOp.sub 3 (Operand.tmp 9) (Operand.const (Value.int IntKind.i64 1)) 3, type := 3, pos := "poly.go:99", after := #[{ on := 6, ground := Ground.data }, { on := 3, ground := Ground.guard }], guard := some (3, true) }) (v := undef) rfl (by kernel_rfl) (fun _ _ _ h => h) (Or.inr ⟨by rfl, rfl⟩) (trivial) ?_
    simp only [Act.put, List.setIfInBounds_toArray, List.set_cons_zero, List.set_cons_succ]
    refine wpAnyT_take (i := 8) (oi := { dst := some 11, op := Op.indexAddr 22 (Operand.tmp 7) (Operand.tmp 10), type := 0, pos := "poly.go:99", after := #[{ on := 4, ground := Ground.data }, { on := 7, ground := Ground.data }, { on := 3, ground := Ground.guard }], guard := some (3, true) }) (v := undef) rfl (by kernel_rfl) (fun _ _ _ h => h) (Or.inr ⟨by rfl, rfl⟩) (trivial) ?_
    simp only [Act.put, List.setIfInBounds_toArray, List.set_cons_zero, List.set_cons_succ]
    refine wpAnyT_take (i := 9) (oi := { dst := some 12, op := Op.load 25 (Operand.tmp 11), type := 25, pos := "poly.go:99", after := #[{ on := 8, ground := Ground.data }, { on := 3, ground := Ground.guard }], guard := some (3, true) }) (v := undef) rfl (by kernel_rfl) (fun _ _ _ h => h) (Or.inr ⟨by rfl, rfl⟩) (trivial) ?_
    simp only [Act.put, List.setIfInBounds_toArray, List.set_cons_zero, List.set_cons_succ]
    refine wpAnyT_take (i := 10) (oi := { dst := some 13, op := Op.call { callee := Callee.value (Operand.func 20), args := #[Operand.const (Value.int IntKind.i64 1)], argTypes := #[2] }, type := 25, pos := "poly.go:99", after := #[{ on := 3, ground := Ground.chain }, { on := 3, ground := Ground.guard }], guard := some (3, true) }) (v := undef) rfl (by kernel_rfl) (fun _ _ _ h => h) (Or.inr ⟨by rfl, rfl⟩) (trivial) ?_
    simp only [Act.put, List.setIfInBounds_toArray, List.set_cons_zero, List.set_cons_succ]
    refine wpAnyT_take (i := 11) (oi := { dst := some 14, op := Op.call { callee := Callee.value (Operand.func 16), args := #[Operand.tmp 12, Operand.tmp 13], argTypes := #[25, 25] }, type := 3, pos := "poly.go:99", after := #[{ on := 9, ground := Ground.data }, { on := 10, ground := Ground.data }, { on := 10, ground := Ground.chain }, { on := 3, ground := Ground.guard }], guard := some (3, true) }) (v := undef) rfl (by kernel_rfl) (fun _ _ _ h => h) (Or.inr ⟨by rfl, rfl⟩) (trivial) ?_
    simp only [Act.put, List.setIfInBounds_toArray, List.set_cons_zero, List.set_cons_succ]
    refine wpAnyT_take (i := 12) (oi := { dst := some 15, op := Op.binOp BinOp.eql 3 (Operand.tmp 14) (Operand.const (Value.int IntKind.i64 0)) 3, type := 4, pos := "poly.go:99", after := #[{ on := 11, ground := Ground.data }, { on := 3, ground := Ground.guard }], guard := some (3, true) }) (v := undef) rfl (by kernel_rfl) (fun _ _ _ h => h) (Or.inr ⟨by rfl, rfl⟩) (trivial) ?_
    simp only [Act.put, List.setIfInBounds_toArray, List.set_cons_zero, List.set_cons_succ]
    refine wpAnyT_take (i := 13) (oi := { dst := some 16, op := Op.pick (Operand.tmp 6) (Operand.tmp 15) (Operand.const (Value.bool false)), type := 4, pos := "poly.go:99", after := #[{ on := 3, ground := Ground.data }, { on := 12, ground := Ground.data }], guard := none }) (v := (.bool false)) rfl (by kernel_rfl) (fun _ _ _ h => h) (Or.inl ⟨by rfl, ?_⟩) (trivial) ?_
    · intro w hSw
      (try dsimp only at hSw)
      go_simp
    simp only [Act.put, List.setIfInBounds_toArray, List.set_cons_zero, List.set_cons_succ]
    refine wpAnyT_one (i := 14) (o := { dst := some 2, op := Op.assign (Operand.tmp 16), type := 4, pos := "poly.go:99", after := #[{ on := 13, ground := Ground.data }, { on := 11, ground := Ground.chain }, { on := 0, ground := Ground.phase }, { on := 1, ground := Ground.phase }, { on := 2, ground := Ground.phase }, { on := 3, ground := Ground.phase }, { on := 4, ground := Ground.phase }, { on := 5, ground := Ground.phase }, { on := 6, ground := Ground.phase }, { on := 7, ground := Ground.phase }, { on := 8, ground := Ground.phase }, { on := 9, ground := Ground.phase }, { on := 10, ground := Ground.phase }, { on := 11, ground := Ground.phase }, { on := 12, ground := Ground.phase }, { on := 13, ground := Ground.phase }], guard := none }) (by kernel_rfl) rfl (fun K hK => ?_)
    go_simp
    refine hK.out _ _ (fun h => absurd h (by decide)) ?_
    clear hK
    try simp only [Act.put]
    refine wpAnyT_done (by kernel_rfl) ?_ _
    have FB := hid GB.out
    clear GB
    go_wp2
    go_ret
    exact ⟨rfl, FB.out⟩
  · obtain ⟨m, rfl⟩ : ∃ m, l = m + 1 := ⟨l - 1, by omega⟩
    have hm : m < zs.length := by rw [HL.out]; omega
    obtain ⟨b1, o1, rfl⟩ := F0.out (fun e => by rw [e] at hm; simp at hm)
    obtain ⟨nf, xf, adf, qf, k0, k1, zf⟩ := Z.out.at9 (i := m) hm
    have ecf : zs[m] = cf zs m := by simp [cf, hm]
    rw [ecf] at zf
    obtain ⟨lf, hlf⟩ : ∃ lf, xf.length = lf := ⟨_, rfl⟩
    rw [hlf] at k1 zf
    have ZF := hid zf
    have hw := wrapP16 (m := m) (by omega)
    have hwm : IntKind.i64.wrap (m : Int) = (m : Int) := by rw [wrap_is] <;> omega
    have hp : (0 : Int) < ((m + 1 : Nat) : Int) := by omega
    have hp' : (0 : Int) < (m : Int) + 1 := by omega
    have hpn : ¬ ((m : Int) + 1 = 0) := by omega
    have hpn' : ¬ (((m + 1 : Nat) : Int) = 0) := by omega
    have hpb : (((m + 1 : Nat) : Int) == 0) = false := by simp; omega
    have hpb' : ((m : Int) + 1 == 0) = false := by simp; omega
    have hlt : (m : Int) < ((m + 1 : Nat) : Int) := by omega
    have hlt2 : (m : Int) < (m : Int) + 1 := by omega
    have EB : Hid (monB zs = decide (cf zs m = 1)) := by unfold Hid monB; rw [HL.out]; simp
    rw [EB.out]
    clear zf ecf hlf h0 F0 Z EB hm HL
    generalize cf zs m = z at *
    go_upto_region 1 with fail
    have KB : Hid (∀ w', Below w.heap.size w w' → w'.cell? ⟨b1, o1 + m * 2, none⟩ = some (.bool nf) ∧ w'.cell? ⟨b1, o1 + m * 2 + 1, none⟩ = some (.slice adf lf qf)) := fun w' h => ⟨cnow h k0, cnow h k1⟩
    refine wp_region_tail (fun w' => w'.cell? ⟨b1, o1 + m * 2, none⟩ = some (.bool nf) ∧ w'.cell? ⟨b1, o1 + m * 2 + 1, none⟩ = some (.slice adf lf qf)) 14 (by kernel_rfl) ?_
    obtain ⟨D61, hD⟩ : ∃ D61, w.drew = D61 := ⟨_, rfl⟩
    have GB : Hid (Below w.heap.size w D61) := by unfold Hid; rw [← hD]; exact (Below.refl _ _).drew
    rw [hD]
    clear hD
    refine wpAnyT_list [(0, (.slice (some ⟨b1, o1, none⟩) (m + 1) c)), (1, (.int .i64 ((m + 1 : Nat) : Int))), (2, (.bool true)), (3, (.bool true)), (4, (.slice (some ⟨b1, o1, none⟩) (m + 1) c)), (5, (.slice (some ⟨b1, o1, none⟩) (m + 1) c)), (6, (.int .i64 ((m + 1 : Nat) : Int))), (7, (.int .i64 (m : Int))), (8, (.pointer (some ⟨b1, o1 + m * 2, none⟩))), (9, (.agg #[.bool nf, .slice adf lf qf]))] 10 ?_ (KB.out _ GB.out) ?_
    · simp only [TakesV, gA9, g09, g19, Act.put, sI9, s09, s19]
      (repeat' (first | exact trivial | refine And.intro (Or.inl ⟨by rfl, ?_⟩) ?_)) <;> (intro w hSw; (try dsimp only at hSw); go_simp)
    simp only [actV, gA9, g09, g19, Act.put, sI9, s09, s19]
    refine wpAnyT_one (i := 10) (o := { dst := some 13, op := Op.call { callee := Callee.value (Operand.func 20), args := #[Operand.const (Value.int IntKind.i64 1)], argTypes := #[2] }, type := 25, pos := "poly.go:99", after := #[{ on := 3, ground := Ground.chain }, { on := 3, ground := Ground.guard }], guard := some (3, true) }) (by kernel_rfl) rfl (fun K hK => ?_)
    go_simp
    go_at_call 20
    refine (of_z (n := 1) (by decide) (by decide) _).mono ?_
    rintro e w62 ⟨r1, rfl, m1, b⟩
    have lz62 := (show Below _ _ _ from b).size
    replace GB := hid (below_step GB.out b)
    have MO := hid m1.zi
    obtain ⟨nr, xr, ar, cr, rfl⟩ := m1.parts
    obtain ⟨lr, hlr⟩ : ∃ lr, xr.length = lr := ⟨_, rfl⟩
    rw [hlr] at MO ⊢
    clear m1 hlr
    clear b
    refine hK.out _ _ (fun _ => KB.out _ GB.out) ?_
    clear hK
    refine wpAnyT_one (i := 11) (o := { dst := some 14, op := Op.call { callee := Callee.value (Operand.func 16), args := #[Operand.tmp 12, Operand.tmp 13], argTypes := #[25, 25] }, type := 3, pos := "poly.go:99", after := #[{ on := 9, ground := Ground.data }, { on := 10, ground := Ground.data }, { on := 10, ground := Ground.chain }, { on := 3, ground := Ground.guard }], guard := some (3, true) }) (by kernel_rfl) rfl (fun K hK => ?_)
    go_simp
    go_at_call 16
    refine (cmp_z (ZF.out.now GB.out) MO.out).mono ?_
    rintro e w63 ⟨rfl, b⟩
    have lz63 := (show Below _ _ _ from b).size
    replace GB := hid (below_step GB.out b)
    have hci := cmpI_is z 1
    clear b
    refine hK.out _ _ (fun _ => KB.out _ GB.out) ?_
    clear hK
    refine wpAnyT_list [(12, (.bool (decide (z = 1)))), (13, (.bool (decide (z = 1))))] 2 ?_ (KB.out _ GB.out) ?_
    · simp only [TakesV, gA9, g09, g19, Act.put, sI9, s09, s19]
      (repeat' (first | exact trivial | refine And.intro (Or.inl ⟨by rfl, ?_⟩) ?_)) <;> (intro w hSw; (try dsimp only at hSw); go_simp)
    simp only [actV, gA9, g09, g19, Act.put, sI9, s09, s19]
    refine wpAnyT_one (i := 14) (o := { dst := some 2, op := Op.assign (Operand.tmp 16), type := 4, pos := "poly.go:99", after := #[{ on := 13, ground := Ground.data }, { on := 11, ground := Ground.chain }, { on := 0, ground := Ground.phase }, { on := 1, ground := Ground.phase }, { on := 2, ground := Ground.phase }, { on := 3, ground := Ground.phase }, { on := 4, ground := Ground.phase }, { on := 5, ground := Ground.phase }, { on := 6, ground := Ground.phase }, { on := 7, ground := Ground.phase }, { on := 8, ground := Ground.phase }, { on := 9, ground := Ground.phase }, { on := 10, ground := Ground.phase }, { on := 11, ground := Ground.phase }, { on := 12, ground := Ground.phase }, { on := 13, ground := Ground.phase }], guard := none }) (by kernel_rfl) rfl (fun K hK => ?_)
    go_simp
    refine hK.out _ _ (fun h => absurd h (by decide)) ?_
    clear hK
    try simp only [Act.put]
    refine wpAnyT_done (by kernel_rfl) ?_ _
    have FB := hid GB.out
    clear GB KB MO ZF
    go_wp2
    go_ret
    exact ⟨rfl, FB.out⟩
set_option maxHeartbeats 3200000 in
set_option maxRecDepth 100000 in
theorem lmonic_any {w : World} {a : Option Addr} {l c k : Nat} {zs : List Int} (h : Zl w (.slice a l c) zs k) : Calls Try.prog 22 #[.slice a l c] w (SaysB w (monB zs)) := by
  have Z := hid h
  obtain ⟨_, _, e1, hc0, hn0, hf0⟩ := h.form9
  simp only [Value.slice.injEq] at e1
  obtain ⟨rfl, rfl, rfl⟩ := e1
  have F0 := hid hf0
  obtain ⟨l, hl⟩ : ∃ l, zs.length = l := ⟨_, rfl⟩
  have HL := hid hl
  rw [hl] at Z hc0 hn0 ⊢
  clear h hf0 hl
  go_enter Try.func22, Try.ntmps22
  by_cases h0 : l = 0
  · subst h0
    have EB : Hid (monB zs = false) := by unfold Hid monB; rw [HL.out]; simp
    rw [EB.out]
    clear HL EB F0 Z
    go_upto_region 1 with fail
    refine wp_region_tail (fun _ => True) 14 (by kernel_rfl) ?_
    obtain ⟨D61, hD⟩ : ∃ D61, w.drew = D61 := ⟨_, rfl⟩
    have GB : Hid (Below w.heap.size w D61) := by unfold Hid; rw [← hD]; exact (Below.refl _ _).drew
    rw [hD]
    clear hD
    refine wpAnyT_take (i := 0) (oi := { dst := some 3, op := Op.move (Operand.tmp 0), type := 22, pos := "outright.go:22", after := #[], guard := none }) (v := (.slice a 0 c)) rfl (by kernel_rfl) (fun _ _ _ h => h) (Or.inl ⟨by rfl, ?_⟩) (trivial) ?_
    · intro w hSw
      (try dsimp only at hSw)
      go_simp
    simp only [Act.put, List.setIfInBounds_toArray, List.set_cons_zero, List.set_cons_succ]
    refine wpAnyT_take (i := 1) (oi := { dst := some 4, op := Op.call { callee := Callee.builtin Builtin.len, args := #[Operand.tmp 3], argTypes := #[22] }, type := 3, pos := "outright.go:22", after := #[{ on := 0, ground := Ground.data }], guard := none }) (v := (.int .i64 0)) rfl (by kernel_rfl) (fun _ _ _ h => h) (Or.inl ⟨by rfl, ?_⟩) (trivial) ?_
    · intro w hSw
      (try dsimp only at hSw)
      go_simp
    simp only [Act.put, List.setIfInBounds_toArray, List.set_cons_zero, List.set_cons_succ]
    refine wpAnyT_take (i := 2) (oi := { dst := some 5, op := Op.binOp BinOp.gtr 3 (Operand.tmp 4) (Operand.const (Value.int IntKind.i64 0)) 3, type := 4, pos := "outright.go:22", after := #[{ on := 1, ground := Ground.data }], guard := none }) (v := (.bool false)) rfl (by kernel_rfl) (fun _ _ _ h => h) (Or.inl ⟨by rfl, ?_⟩) (trivial) ?_
    · intro w hSw
      (try dsimp only at hSw)
      go_simp
    simp only [Act.put, List.setIfInBounds_toArray, List.set_cons_zero, List.set_cons_succ]
    refine wpAnyT_take (i := 3) (oi := { dst := some 6, op := Op.move (Operand.tmp 5), type := 4, pos := "outright.go:22", after := #[{ on := 2, ground := Ground.data }], guard := none }) (v := (.bool false)) rfl (by kernel_rfl) (fun _ _ _ h => h) (Or.inl ⟨by rfl, ?_⟩) (trivial) ?_
    · intro w hSw
      (try dsimp only at hSw)
      go_simp
    simp only [Act.put, List.setIfInBounds_toArray, List.set_cons_zero, List.set_cons_succ]
    refine wpAnyT_take (i := 4) (oi := { dst := some 7, op := Op.move (Operand.tmp 0), type := 22, pos := "outright.go:22", after := #[{ on := 3, ground := Ground.guard }], guard := some (3, true) }) (v := undef) rfl (by kernel_rfl) (fun _ _ _ h => h) (Or.inr ⟨by rfl, rfl⟩) (trivial) ?_
    simp only [Act.put, List.setIfInBounds_toArray, List.set_cons_zero, List.set_cons_succ]
    refine wpAnyT_take (i := 5) (oi := { dst := some 8, op := Op.move (Operand.tmp 0), type := 22, pos := "outright.go:22", after := #[{ on := 3, ground := Ground.guard }], guard := some (3, true) }) (v := undef) rfl (by kernel_rfl) (fun _ _ _ h => h) (Or.inr ⟨by rfl, rfl⟩) (trivial) ?_
    simp only [Act.put, List.setIfInBounds_toArray, List.set_cons_zero, List.set_cons_succ]
    refine wpAnyT_take (i := 6) (oi := { dst := some 9, op := Op.call { callee := Callee.builtin Builtin.len, args := #[Operand.tmp 8], argTypes := #[22] }, type := 3, pos := "outright.go:22", after := #[{ on := 5, ground := Ground.data }, { on := 3, ground := Ground.guard }], guard := some (3, true) }) (v := undef) rfl (by kernel_rfl) (fun _ _ _ h => h) (Or.inr ⟨by rfl, rfl⟩) (trivial) ?_
    simp only [Act.put, List.setIfInBounds_toArray, List.set_cons_zero, List.set_cons_succ]
    refine wpAnyT_take (i := 7) (oi := { dst := some 10, op := Op.binOp BinOp.sub 3 (Operand.tmp 9) (Operand.const (Value.int IntKind.i64 1)) 3, type := 3, pos := "outright.go:22", after := #[{ on := 6, ground := Ground.data }, { on := 3, ground := Ground.guard }], guard := some (3, true) }) (v := undef) rfl (by kernel_rfl) (fun _ _ _ h => h) (Or.inr ⟨by rfl, rfl⟩) (trivial) ?_
    simp only [Act.put, List.setIfInBounds_toArray, List.set_cons_zero, List.set_cons_succ]
    refine wpAnyT_take (i := 8) (oi := { dst := some 11, op := Op.indexAddr 22 (Operand.tmp 7) (Operand.tmp 10), type := 0, pos := "outright.go:22", after := #[{ on := 4, ground := Ground.data }, { on := 7, ground := Ground.data }, { on := 3, ground := Ground.guard }], guard := some (3, true) }) (v := undef) rfl (by kernel_rfl) (fun _ _ _ h => h) (Or.inr ⟨by rfl, rfl⟩) (trivial) ?_
    simp only [Act.put, List.setIfInBounds_toArray, List.set_cons_zero, List.set_cons_succ]
    refine wpAnyT_take (i := 9) (oi := { dst := some 12, op := Op.load 25 (Operand.tmp 11), type := 25, pos := "outright.go:22", after := #[{ on := 8, ground := Ground.data }, { on := 3, ground := Ground.guard }], guard := some (3, true) }) (v := undef) rfl (by kernel_rfl) (fun _ _ _ h => h) (Or.inr ⟨by rfl, rfl⟩) (trivial) ?_
    simp only [Act.put, List.setIfInBounds_toArray, List.set_cons_zero, List.set_cons_succ]
    refine wpAnyT_take (i := 10) (oi := { dst := some 13, op := Op.call { callee := Callee.value (Operand.func 20), args := #[Operand.const (Value.int IntKind.i64 1)], argTypes := #[2] }, type := 25, pos := "outright.go:22", after := #[{ on := 3, ground := Ground.chain }, { on := 3, ground := Ground.guard }], guard := some (3, true) }) (v := undef) rfl (by kernel_rfl) (fun _ _ _ h => h) (Or.inr ⟨by rfl, rfl⟩) (trivial) ?_
    simp only [Act.put, List.setIfInBounds_toArray, List.set_cons_zero, List.set_cons_succ]
    refine wpAnyT_take (i := 11) (oi := { dst := some 14, op := Op.call { callee := Callee.value (Operand.func 16), args := #[Operand.tmp 12, Operand.tmp 13], argTypes := #[25, 25] }, type := 3, pos := "outright.go:22", after := #[{ on := 9, ground := Ground.data }, { on := 10, ground := Ground.data }, { on := 10, ground := Ground.chain }, { on := 3, ground := Ground.guard }], guard := some (3, true) }) (v := undef) rfl (by kernel_rfl) (fun _ _ _ h => h) (Or.inr ⟨by rfl, rfl⟩) (trivial) ?_
    simp only [Act.put, List.setIfInBounds_toArray, List.set_cons_zero, List.set_cons_succ]
    refine wpAnyT_take (i := 12) (oi := { dst := some 15, op := Op.binOp BinOp.eql 3 (Operand.tmp 14) (Operand.const (Value.int IntKind.i64 0)) 3, type := 4, pos := "outright.go:22", after := #[{ on := 11, ground := Ground.data }, { on := 3, ground := Ground.guard }], guard := some (3, true) }) (v := undef) rfl (by kernel_rfl) (fun _ _ _ h => h) (Or.inr ⟨by rfl, rfl⟩) (trivial) ?_
    simp only [Act.put, List.setIfInBounds_toArray, List.set_cons_zero, List.set_cons_succ]
    refine wpAnyT_take (i := 13) (oi := { dst := some 16, op := Op.pick (Operand.tmp 6) (Operand.tmp 15) (Operand.const (Value.bool false)), type := 4, pos := "outright.go:22", after := #[{ on := 3, ground := Ground.data }, { on := 12, ground := Ground.data }], guard := none }) (v := (.bool false)) rfl (by kernel_rfl) (fun _ _ _ h => h) (Or.inl ⟨by rfl, ?_⟩) (trivial) ?_
    · intro w hSw
      (try dsimp only at hSw)
      go_simp
    simp only [Act.put, List.setIfInBounds_toArray, List.set_cons_zero, List.set_cons_succ]
    refine wpAnyT_one (i := 14) (o := { dst := some 2, op := Op.assign (Operand.tmp 16), type := 4, pos := "outright.go:22", after := #[{ on := 13, ground := Ground.data }, { on := 11, ground := Ground.chain }, { on := 0, ground := Ground.phase }, { on := 1, ground := Ground.phase }, { on := 2, ground := Ground.phase }, { on := 3, ground := Ground.phase }, { on := 4, ground := Ground.phase }, { on := 5, ground := Ground.phase }, { on := 6, ground := Ground.phase }, { on := 7, ground := Ground.phase }, { on := 8, ground := Ground.phase }, { on := 9, ground := Ground.phase }, { on := 10, ground := Ground.phase }, { on := 11, ground := Ground.phase }, { on := 12, ground := Ground.phase }, { on := 13, ground := Ground.phase }], guard := none }) (by kernel_rfl) rfl (fun K hK => ?_)
    go_simp
    refine hK.out _ _ (fun h => absurd h (by decide)) ?_
    clear hK
    try simp only [Act.put]
    refine wpAnyT_done (by kernel_rfl) ?_ _
    have FB := hid GB.out
    clear GB
    go_wp2
    go_ret
    exact ⟨rfl, FB.out⟩
  · obtain ⟨m, rfl⟩ : ∃ m, l = m + 1 := ⟨l - 1, by omega⟩
    have hm : m < zs.length := by rw [HL.out]; omega
    obtain ⟨b1, o1, rfl⟩ := F0.out (fun e => by rw [e] at hm; simp at hm)
    obtain ⟨nf, xf, adf, qf, k0, k1, zf⟩ := Z.out.at9 (i := m) hm
    have ecf : zs[m] = cf zs m := by simp [cf, hm]
    rw [ecf] at zf
    obtain ⟨lf, hlf⟩ : ∃ lf, xf.length = lf := ⟨_, rfl⟩
    rw [hlf] at k1 zf
    have ZF := hid zf
    have hw := wrapP16 (m := m) (by omega)
    have hwm : IntKind.i64.wrap (m : Int) = (m : Int) := by rw [wrap_is] <;> omega
    have hp : (0 : Int) < ((m + 1 : Nat) : Int) := by omega
    have hp' : (0 : Int) < (m : Int) + 1 := by omega
    have hpn : ¬ ((m : Int) + 1 = 0) := by omega
    have hpn' : ¬ (((m + 1 : Nat) : Int) = 0) := by omega
    have hpb : (((m + 1 : Nat) : Int) == 0) = false := by simp; omega
    have hpb' : ((m : Int) + 1 == 0) = false := by simp; omega
    have hlt : (m : Int) < ((m + 1 : Nat) : Int) := by omega
    have hlt2 : (m : Int) < (m : Int) + 1 := by omega
    have EB : Hid (monB zs = decide (cf zs m = 1)) := by unfold Hid monB; rw [HL.out]; simp
    rw [EB.out]
    clear zf ecf hlf h0 F0 Z EB hm HL
    generalize cf zs m = z at *
    go_upto_region 1 with fail
    have KB : Hid (∀ w', Below w.heap.size w w' → w'.cell? ⟨b1, o1 + m * 2, none⟩ = some (.bool nf) ∧ w'.cell? ⟨b1, o1 + m * 2 + 1, none⟩ = some (.slice adf lf qf)) := fun w' h => ⟨cnow h k0, cnow h k1⟩
    refine wp_region_tail (fun w' => w'.cell? ⟨b1, o1 + m * 2, none⟩ = some (.bool nf) ∧ w'.cell? ⟨b1, o1 + m * 2 + 1, none⟩ = some (.slice adf lf qf)) 14 (by kernel_rfl) ?_
    obtain ⟨D61, hD⟩ : ∃ D61, w.drew = D61 := ⟨_, rfl⟩
    have GB : Hid (Below w.heap.size w D61) := by unfold Hid; rw [← hD]; exact (Below.refl _ _).drew
    rw [hD]
    clear hD
    refine wpAnyT_list [(0, (.slice (some ⟨b1, o1, none⟩) (m + 1) c)), (1, (.int .i64 ((m + 1 : Nat) : Int))), (2, (.bool true)), (3, (.bool true)), (4, (.slice (some ⟨b1, o1, none⟩) (m + 1) c)), (5, (.slice (some ⟨b1, o1, none⟩) (m + 1) c)), (6, (.int .i64 ((m + 1 : Nat) : Int))), (7, (.int .i64 (m : Int))), (8, (.pointer (some ⟨b1, o1 + m * 2, none⟩))), (9, (.agg #[.bool nf, .slice adf lf qf]))] 10 ?_ (KB.out _ GB.out) ?_
    · simp only [TakesV, gA9, g09, g19, Act.put, sI9, s09, s19]
      (repeat' (first | exact trivial | refine And.intro (Or.inl ⟨by rfl, ?_⟩) ?_)) <;> (intro w hSw; (try dsimp only at hSw); go_simp)
    simp only [actV, gA9, g09, g19, Act.put, sI9, s09, s19]
    refine wpAnyT_one (i := 10) (o := { dst := some 13, op := Op.call { callee := Callee.value (Operand.func 20), args := #[Operand.const (Value.int IntKind.i64 1)], argTypes := #[2] }, type := 25, pos := "outright.go:22", after := #[{ on := 3, ground := Ground.chain }, { on := 3, ground := Ground.guard }], guard := some (3, true) }) (by kernel_rfl) rfl (fun K hK => ?_)
    go_simp
    go_at_call 20
    refine (of_z (n := 1) (by decide) (by decide) _).mono ?_
    rintro e w62 ⟨r1, rfl, m1, b⟩
    have lz62 := (show Below _ _ _ from b).size
    replace GB := hid (below_step GB.out b)
    have MO := hid m1.zi
    obtain ⟨nr, xr, ar, cr, rfl⟩ := m1.parts
    obtain ⟨lr, hlr⟩ : ∃ lr, xr.length = lr := ⟨_, rfl⟩
    rw [hlr] at MO ⊢
    clear m1 hlr
    clear b
    refine hK.out _ _ (fun _ => KB.out _ GB.out) ?_
    clear hK
    refine wpAnyT_one (i := 11) (o := { dst := some 14, op := Op.call { callee := Callee.value (Operand.func 16), args := #[Operand.tmp 12, Operand.tmp 13], argTypes := #[25, 25] }, type := 3, pos := "outright.go:22", after := #[{ on := 9, ground := Ground.data }, { on := 10, ground := Ground.data }, { on := 10, ground := Ground.chain }, { on := 3, ground := Ground.guard }], guard := some (3, true) }) (by kernel_rfl) rfl (fun K hK => ?_)
    go_simp
    go_at_call 16
    refine (cmp_z (ZF.out.now GB.out) MO.out).mono ?_
    rintro e w63 ⟨rfl, b⟩
    have lz63 := (show Below _ _ _ from b).size
    replace GB := hid (below_step GB.out b)
    have hci := cmpI_is z 1
    clear b
    refine hK.out _ _ (fun _ => KB.out _ GB.out) ?_
    clear hK
    refine wpAnyT_list [(12, (.bool (decide (z = 1)))), (13, (.bool (decide (z = 1))))] 2 ?_ (KB.out _ GB.out) ?_
    · simp only [TakesV, gA9, g09, g19, Act.put, sI9, s09, s19]
      (repeat' (first | exact trivial | refine And.intro (Or.inl ⟨by rfl, ?_⟩) ?_)) <;> (intro w hSw; (try dsimp only at hSw); go_simp)
    simp only [actV, gA9, g09, g19, Act.put, sI9, s09, s19]
    refine wpAnyT_one (i := 14) (o := { dst := some 2, op := Op.assign (Operand.tmp 16), type := 4, pos := "outright.go:22", after := #[{ on := 13, ground := Ground.data }, { on := 11, ground := Ground.chain }, { on := 0, ground := Ground.phase }, { on := 1, ground := Ground.phase }, { on := 2, ground := Ground.phase }, { on := 3, ground := Ground.phase }, { on := 4, ground := Ground.phase }, { on := 5, ground := Ground.phase }, { on := 6, ground := Ground.phase }, { on := 7, ground := Ground.phase }, { on := 8, ground := Ground.phase }, { on := 9, ground := Ground.phase }, { on := 10, ground := Ground.phase }, { on := 11, ground := Ground.phase }, { on := 12, ground := Ground.phase }, { on := 13, ground := Ground.phase }], guard := none }) (by kernel_rfl) rfl (fun K hK => ?_)
    go_simp
    refine hK.out _ _ (fun h => absurd h (by decide)) ?_
    clear hK
    try simp only [Act.put]
    refine wpAnyT_done (by kernel_rfl) ?_ _
    have FB := hid GB.out
    clear GB KB MO ZF
    go_wp2
    go_ret
    exact ⟨rfl, FB.out⟩
set_option maxHeartbeats 3200000 in
set_option maxRecDepth 100000 in
theorem ltrimmed_any {w : World} {a : Option Addr} {l c k : Nat} {zs : List Int} (h : Zl w (.slice a l c) zs k) : Calls Try.prog 15 #[.slice a l c] w (SaysB w (trmB zs)) := by
  have Z := hid h
  obtain ⟨_, _, e1, hc0, hn0, hf0⟩ := h.form9
  simp only [Value.slice.injEq] at e1
  obtain ⟨rfl, rfl, rfl⟩ := e1
  have F0 := hid hf0
  obtain ⟨l, hl⟩ : ∃ l, zs.length = l := ⟨_, rfl⟩
  have HL := hid hl
  rw [hl] at Z hc0 hn0 ⊢
  clear h hf0 hl
  go_enter Try.func15, Try.ntmps15
  by_cases h0 : l = 0
  · subst h0
    have EB : Hid (trmB zs = true) := by unfold Hid trmB; rw [HL.out]; simp
    rw [EB.out]
    clear HL EB F0 Z
    go_wp2
    go_ret
    exact ⟨rfl, Below.refl _ _⟩
  · obtain ⟨m, rfl⟩ : ∃ m, l = m + 1 := ⟨l - 1, by omega⟩
    have hm : m < zs.length := by rw [HL.out]; omega
    obtain ⟨b1, o1, rfl⟩ := F0.out (fun e => by rw [e] at hm; simp at hm)
    obtain ⟨nf, xf, adf, qf, k0, k1, zf⟩ := Z.out.at9 (i := m) hm
    have ecf : zs[m] = cf zs m := by simp [cf, hm]
    rw [ecf] at zf
    obtain ⟨lf, hlf⟩ : ∃ lf, xf.length = lf := ⟨_, rfl⟩
    rw [hlf] at k1 zf
    have ZF := hid zf
    have hw := wrapP16 (m := m) (by omega)
    have hwm : IntKind.i64.wrap (m : Int) = (m : Int) := by rw [wrap_is] <;> omega
    have hp : (0 : Int) < ((m + 1 : Nat) : Int) := by omega
    have hp' : (0 : Int) < (m : Int) + 1 := by omega
    have hpn : ¬ ((m : Int) + 1 = 0) := by omega
    have hpn' : ¬ (((m + 1 : Nat) : Int) = 0) := by omega
    have hpb : (((m + 1 : Nat) : Int) == 0) = false := by simp; omega
    have hpb' : ((m : Int) + 1 == 0) = false := by simp; omega
    have hlt : (m : Int) < ((m + 1 : Nat) : Int) := by omega
    have hlt2 : (m : Int) < (m : Int) + 1 := by omega
    have EB : Hid (trmB zs = !decide (cf zs m = 0)) := by unfold Hid trmB; rw [HL.out]; simp
    rw [EB.out]
    clear zf ecf hlf h0 F0 Z EB hm HL
    generalize cf zs m = z at *
    have HC := hid (sign_z ZF.out)
    clear ZF
    go_wp2_with fail
    refine HC.out.mono ?_
    rintro e w1 ⟨rfl, b⟩
    have FB : Hid (SaysB w (!decide (z = 0)) (.returned (.bool (!decide (z = 0)))) w1) := ⟨rfl, b⟩
    have hci : (cmpI z 0 != 0) = !decide (z = 0) := by rw [bne, cmpI_is]
    clear HC b k0 k1
    go_wp2
    go_ret
    exact FB.out
end Go.Proofs.Ytnpcfohimlfbdaa
