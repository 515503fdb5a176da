/-
  Add10: Add.
-/
import Derived.Test.YtachdicdfhfoaaaQCopy10
namespace Go.Proofs.Ytachdicdfhfoaaa
open Go.RowKit Go.ChangeMaps Go.MapKept
set_option linter.unusedVariables false

theorem unless_any {w : World} {g b r c n : Nat} {f : Nat × Nat → Option Value} (h : Gd w g b r c) (hm : Mp spv spok w b f n) (hn : n ≤ 4096) : Calls Try.prog 50 #[.pointer (some ⟨g, 0, none⟩)] w (Still w (.tuple #[.pointer (some ⟨g, 0, none⟩), .int .i64 0])) := by
  have x0 := h.1.at (i := 2) rfl
  have hl := fun ty => hm.len Try.map10 ty
  have hc : decide ((4096 : Int) < (n : Int)) = false := decide_eq_false (by omega)
  clear h hm hn
  go_enter Try.func50, Try.ntmps50
  go_wp2
  go_ret2
  exact ⟨rfl, rfl⟩
/-- A grid or an error. -/
def MadeG2 (w : World) (r c : Nat) (F : Nat → Nat → Int) (k : Nat) (e : Ending) (w' : World) : Prop := ∃ g b, e = .returned (.tuple #[.pointer (some ⟨g, 0, none⟩), .int .i64 0]) ∧ Gq w' g b r c F k ∧ w.heap.size ≤ g ∧ w.heap.size ≤ b ∧ Below w.heap.size w w'
theorem pw_two (m : Nat) : 2 * pw m ≤ pw (m + 1) := by
  have h := pw_pos m
  have e : pw (m + 1) = wB * pw m := by first | rfl | exact pw_succ m | (rw [pw_succ, Int.mul_comm])
  have e2 : wB = 18446744073709551616 := rfl
  rw [e, e2]
  omega
theorem abs_add {x y : Int} {a b : Nat} (hx : (x.natAbs : Int) < pw a) (hy : (y.natAbs : Int) < pw b) : ((x + y).natAbs : Int) < pw (max a b + 1) := by
  have h1 := pw_two (max a b)
  have h2 := pw_up (Nat.le_max_left a b)
  have h3 := pw_up (Nat.le_max_right a b)
  omega
def adF (left : Nat × Nat → Bool) (A B : Nat → Nat → Int) : Nat → Nat → Int := fun i j => A i j + lft left B i j
def HypAdd (w : World) (g' b' it bh n r c ka kb : Nat) (f : Nat × Nat → Option Value) (A B : Nat → Nat → Int) (gk : Nat) (wx : World) : Prop :=
  ∃ left, Rg spv spok wx bh it f n left gk ∧ Gq wx g' b' r c (adF left A B) (max ka kb + 1) ∧ Nm wx f B kb ∧ Below w.heap.size w wx
theorem adF_step {left : Nat × Nat → Bool} {A B : Nat → Nat → Int} {s : Nat × Nat} (hs : left s = true) : ∀ i j, setF (adF left A B) s (A s.1 s.2 + B s.1 s.2) i j = adF (fun x => left x && !decide (x = s)) A B i j := fun i j => by
  unfold setF adF lft
  by_cases e : (i, j) = s
  · subst e; simp
  · simp [e]
set_option maxHeartbeats 3200000 in
set_option maxRecDepth 100000 in
theorem addG_rows {w : World} {g bg h bh r c r' c' ka kb : Nat} {A B : Nat → Nat → Int} (hA : Gq w g bg r c A ka) (hB : Gq w h bh r' c' B kb) (hne : ((r : Int) != (r' : Int)) = true) : Calls Try.prog 19 #[.pointer (some ⟨g, 0, none⟩), .pointer (some ⟨h, 0, none⟩)] w (Says w (.tuple #[.pointer none, .int .i64 2])) := by
  obtain ⟨f, n, hg, hm, hf, hw⟩ := id hB
  have x0 := hA.gd.1.at (i := 0) rfl
  have x1 := hA.gd.1.at (i := 1) rfl
  have y0 := hg.1.at (i := 0) rfl
  have y1 := hg.1.at (i := 1) rfl
  have GA := hid hA
  have HG := hid hg
  have HM := hid hm
  have HF := hid hf
  have HWI := hid hw
  clear hg hm hf hw hA hB
  go_enter Try.func19, Try.ntmps19
  go_wp2_with fail
  have KB : Hid (∀ w', Below w.heap.size w w' → w'.cell? ⟨g, 0, none⟩ = some (.int .i64 (r : Int)) ∧ w'.cell? ⟨h, 0, none⟩ = some (.int .i64 (r' : Int))) := fun w' h => ⟨cnow h x0, cnow h y0⟩
  refine wp_region_tail (fun w' => w'.cell? ⟨g, 0, none⟩ = some (.int .i64 (r : Int)) ∧ w'.cell? ⟨h, 0, none⟩ = some (.int .i64 (r' : Int))) 19 (by kernel_rfl) ?_
  obtain ⟨D1, hD⟩ : ∃ D1, w.drew = D1 := ⟨_, rfl⟩
  have GB : Hid (Below w.heap.size w D1) := by unfold Hid; rw [← hD]; exact (Below.refl _ _).drew
  rw [hD]
  clear hD
  refine wpAnyT_take (i := 0) (oi := { dst := some 15, op := Op.move (Operand.tmp 0), type := 27, pos := "whole.go:34", after := #[], guard := none }) (v := (.pointer (some ⟨g, 0, none⟩))) rfl (by kernel_rfl) (fun _ _ _ h => h) (Or.inl ⟨by rfl, ?_⟩) (KB.out _ GB.out) ?_
  · intro w hSw
    (try dsimp only at hSw)
    go_simp
  simp only [Act.put, List.setIfInBounds_toArray, List.set_cons_zero, List.set_cons_succ]
  refine wpAnyT_take (i := 1) (oi := { dst := some 16, op := Op.nilCheck (Operand.tmp 15), type := 0, pos := "whole.go:34", after := #[{ on := 0, ground := Ground.data }], guard := none }) (v := (.pointer (some ⟨g, 0, none⟩))) rfl (by kernel_rfl) (fun _ _ _ h => h) (Or.inl ⟨by rfl, ?_⟩) (KB.out _ GB.out) ?_
  · intro w hSw
    (try dsimp only at hSw)
    go_simp
  simp only [Act.put, List.setIfInBounds_toArray, List.set_cons_zero, List.set_cons_succ]
  refine wpAnyT_take (i := 2) (oi := { dst := some 17, op := Op.fieldAddr 68 (Operand.tmp 16) 0, type := 0, pos := "whole.go:34", after := #[{ on := 1, ground := Ground.data }], guard := none }) (v := (.pointer (some ⟨g, 0, none⟩))) rfl (by kernel_rfl) (fun _ _ _ h => h) (Or.inl ⟨by rfl, ?_⟩) (KB.out _ GB.out) ?_
  · intro w hSw
    (try dsimp only at hSw)
    go_simp
  simp only [Act.put, List.setIfInBounds_toArray, List.set_cons_zero, List.set_cons_succ]
  refine wpAnyT_take (i := 3) (oi := { dst := some 18, op := Op.load 3 (Operand.tmp 17), type := 3, pos := "whole.go:34", after := #[{ on := 2, ground := Ground.data }], guard := none }) (v := (.int .i64 (r : Int))) rfl (by kernel_rfl) (fun _ _ _ h => h) (Or.inl ⟨by rfl, ?_⟩) (KB.out _ GB.out) ?_
  · intro w hSw
    (try dsimp only at hSw)
    go_simp
  simp only [Act.put, List.setIfInBounds_toArray, List.set_cons_zero, List.set_cons_succ]
  refine wpAnyT_take (i := 4) (oi := { dst := some 19, op := Op.move (Operand.tmp 1), type := 27, pos := "whole.go:34", after := #[], guard := none }) (v := (.pointer (some ⟨h, 0, none⟩))) rfl (by kernel_rfl) (fun _ _ _ h => h) (Or.inl ⟨by rfl, ?_⟩) (KB.out _ GB.out) ?_
  · intro w hSw
    (try dsimp only at hSw)
    go_simp
  simp only [Act.put, List.setIfInBounds_toArray, List.set_cons_zero, List.set_cons_succ]
  refine wpAnyT_take (i := 5) (oi := { dst := some 20, op := Op.nilCheck (Operand.tmp 19), type := 0, pos := "whole.go:34", after := #[{ on := 4, ground := Ground.data }], guard := none }) (v := (.pointer (some ⟨h, 0, none⟩))) rfl (by kernel_rfl) (fun _ _ _ h => h) (Or.inl ⟨by rfl, ?_⟩) (KB.out _ GB.out) ?_
  · intro w hSw
    (try dsimp only at hSw)
    go_simp
  simp only [Act.put, List.setIfInBounds_toArray, List.set_cons_zero, List.set_cons_succ]
  refine wpAnyT_take (i := 6) (oi := { dst := some 21, op := Op.fieldAddr 68 (Operand.tmp 20) 0, type := 0, pos := "whole.go:34", after := #[{ on := 5, ground := Ground.data }], guard := none }) (v := (.pointer (some ⟨h, 0, none⟩))) rfl (by kernel_rfl) (fun _ _ _ h => h) (Or.inl ⟨by rfl, ?_⟩) (KB.out _ GB.out) ?_
  · intro w hSw
    (try dsimp only at hSw)
    go_simp
  simp only [Act.put, List.setIfInBounds_toArray, List.set_cons_zero, List.set_cons_succ]
  refine wpAnyT_take (i := 7) (oi := { dst := some 22, op := Op.load 3 (Operand.tmp 21), type := 3, pos := "whole.go:34", after := #[{ on := 6, ground := Ground.data }], guard := none }) (v := (.int .i64 (r' : Int))) rfl (by kernel_rfl) (fun _ _ _ h => h) (Or.inl ⟨by rfl, ?_⟩) (KB.out _ GB.out) ?_
  · intro w hSw
    (try dsimp only at hSw)
    go_simp
  simp only [Act.put, List.setIfInBounds_toArray, List.set_cons_zero, List.set_cons_succ]
  refine wpAnyT_take (i := 8) (oi := { dst := some 23, op := Op.binOp BinOp.neq 3 (Operand.tmp 18) (Operand.tmp 22) 3, type := 4, pos := "whole.go:34", after := #[{ on := 3, ground := Ground.data }, { on := 7, ground := Ground.data }], guard := none }) (v := (.bool true)) rfl (by kernel_rfl) (fun _ _ _ h => h) (Or.inl ⟨by rfl, ?_⟩) (KB.out _ GB.out) ?_
  · intro w hSw
    (try dsimp only at hSw)
    go_simp
  simp only [Act.put, List.setIfInBounds_toArray, List.set_cons_zero, List.set_cons_succ]
  refine wpAnyT_take (i := 9) (oi := { dst := some 24, op := Op.move (Operand.tmp 23), type := 4, pos := "whole.go:34", after := #[{ on := 8, ground := Ground.data }], guard := none }) (v := (.bool true)) rfl (by kernel_rfl) (fun _ _ _ h => h) (Or.inl ⟨by rfl, ?_⟩) (KB.out _ GB.out) ?_
  · intro w hSw
    (try dsimp only at hSw)
    go_simp
  simp only [Act.put, List.setIfInBounds_toArray, List.set_cons_zero, List.set_cons_succ]
  refine wpAnyT_take (i := 10) (oi := { dst := some 25, op := Op.move (Operand.tmp 0), type := 27, pos := "whole.go:34", after := #[{ on := 9, ground := Ground.guard }], guard := some (9, false) }) (v := undef) rfl (by kernel_rfl) (fun _ _ _ h => h) (Or.inr ⟨by rfl, rfl⟩) (KB.out _ GB.out) ?_
  simp only [Act.put, List.setIfInBounds_toArray, List.set_cons_zero, List.set_cons_succ]
  refine wpAnyT_take (i := 11) (oi := { dst := some 26, op := Op.nilCheck (Operand.tmp 25), type := 0, pos := "whole.go:34", after := #[{ on := 10, ground := Ground.data }, { on := 9, ground := Ground.guard }], guard := some (9, false) }) (v := undef) rfl (by kernel_rfl) (fun _ _ _ h => h) (Or.inr ⟨by rfl, rfl⟩) (KB.out _ GB.out) ?_
  simp only [Act.put, List.setIfInBounds_toArray, List.set_cons_zero, List.set_cons_succ]
  refine wpAnyT_take (i := 12) (oi := { dst := some 27, op := Op.fieldAddr 68 (Operand.tmp 26) 1, type := 0, pos := "whole.go:34", after := #[{ on := 11, ground := Ground.data }, { on := 9, ground := Ground.guard }], guard := some (9, false) }) (v := undef) rfl (by kernel_rfl) (fun _ _ _ h => h) (Or.inr ⟨by rfl, rfl⟩) (KB.out _ GB.out) ?_
  simp only [Act.put, List.setIfInBounds_toArray, List.set_cons_zero, List.set_cons_succ]
  refine wpAnyT_take (i := 13) (oi := { dst := some 28, op := Op.load 3 (Operand.tmp 27), type := 3, pos := "whole.go:34", after := #[{ on := 12, ground := Ground.data }, { on := 9, ground := Ground.guard }], guard := some (9, false) }) (v := undef) rfl (by kernel_rfl) (fun _ _ _ h => h) (Or.inr ⟨by rfl, rfl⟩) (KB.out _ GB.out) ?_
  simp only [Act.put, List.setIfInBounds_toArray, List.set_cons_zero, List.set_cons_succ]
  refine wpAnyT_take (i := 14) (oi := { dst := some 29, op := Op.move (Operand.tmp 1), type := 27, pos := "whole.go:34", after := #[{ on := 9, ground := Ground.guard }], guard := some (9, false) }) (v := undef) rfl (by kernel_rfl) (fun _ _ _ h => h) (Or.inr ⟨by rfl, rfl⟩) (KB.out _ GB.out) ?_
  simp only [Act.put, List.setIfInBounds_toArray, List.set_cons_zero, List.set_cons_succ]
  refine wpAnyT_take (i := 15) (oi := { dst := some 30, op := Op.nilCheck (Operand.tmp 29), type := 0, pos := "whole.go:34", after := #[{ on := 14, ground := Ground.data }, { on := 9, ground := Ground.guard }], guard := some (9, false) }) (v := undef) rfl (by kernel_rfl) (fun _ _ _ h => h) (Or.inr ⟨by rfl, rfl⟩) (KB.out _ GB.out) ?_
  simp only [Act.put, List.setIfInBounds_toArray, List.set_cons_zero, List.set_cons_succ]
  refine wpAnyT_take (i := 16) (oi := { dst := some 31, op := Op.fieldAddr 68 (Operand.tmp 30) 1, type := 0, pos := "whole.go:34", after := #[{ on := 15, ground := Ground.data }, { on := 9, ground := Ground.guard }], guard := some (9, false) }) (v := undef) rfl (by kernel_rfl) (fun _ _ _ h => h) (Or.inr ⟨by rfl, rfl⟩) (KB.out _ GB.out) ?_
  simp only [Act.put, List.setIfInBounds_toArray, List.set_cons_zero, List.set_cons_succ]
  refine wpAnyT_take (i := 17) (oi := { dst := some 32, op := Op.load 3 (Operand.tmp 31), type := 3, pos := "whole.go:34", after := #[{ on := 16, ground := Ground.data }, { on := 9, ground := Ground.guard }], guard := some (9, false) }) (v := undef) rfl (by kernel_rfl) (fun _ _ _ h => h) (Or.inr ⟨by rfl, rfl⟩) (KB.out _ GB.out) ?_
  simp only [Act.put, List.setIfInBounds_toArray, List.set_cons_zero, List.set_cons_succ]
  refine wpAnyT_take (i := 18) (oi := { dst := some 33, op := Op.binOp BinOp.neq 3 (Operand.tmp 28) (Operand.tmp 32) 3, type := 4, pos := "whole.go:34", after := #[{ on := 13, ground := Ground.data }, { on := 17, ground := Ground.data }, { on := 9, ground := Ground.guard }], guard := some (9, false) }) (v := undef) rfl (by kernel_rfl) (fun _ _ _ h => h) (Or.inr ⟨by rfl, rfl⟩) (KB.out _ GB.out) ?_
  simp only [Act.put, List.setIfInBounds_toArray, List.set_cons_zero, List.set_cons_succ]
  refine wpAnyT_one (i := 19) (o := { dst := some 34, op := Op.pick (Operand.tmp 24) (Operand.const (Value.bool true)) (Operand.tmp 33), type := 4, pos := "whole.go:34", after := #[{ on := 9, ground := Ground.data }, { on := 18, ground := Ground.data }], guard := none }) (by kernel_rfl) rfl (fun K hK => ?_)
  go_simp
  refine hK.out _ _ (fun h => absurd h (by decide)) ?_
  clear hK
  try simp only [Act.put]
  refine wpAnyT_done (by kernel_rfl) ?_ _
  have FIN : Hid (Says w (.tuple #[.pointer none, .int .i64 2]) (.returned (.tuple #[.pointer none, .int .i64 2])) D1) := ⟨rfl, GB.out⟩
  clear GB KB
  go_wp2
  go_ret2
  exact FIN.out
set_option maxHeartbeats 3200000 in
set_option maxRecDepth 100000 in
theorem addG_cols {w : World} {g bg h bh r c c' ka kb : Nat} {A B : Nat → Nat → Int} (hA : Gq w g bg r c A ka) (hB : Gq w h bh r c' B kb) (hne : ((c : Int) != (c' : Int)) = true) : Calls Try.prog 19 #[.pointer (some ⟨g, 0, none⟩), .pointer (some ⟨h, 0, none⟩)] w (Says w (.tuple #[.pointer none, .int .i64 2])) := by
  obtain ⟨f, n, hg, hm, hf, hw⟩ := id hB
  have x0 := hA.gd.1.at (i := 0) rfl
  have x1 := hA.gd.1.at (i := 1) rfl
  have y0 := hg.1.at (i := 0) rfl
  have y1 := hg.1.at (i := 1) rfl
  have GA := hid hA
  have HG := hid hg
  have HM := hid hm
  have HF := hid hf
  have HWI := hid hw
  clear hg hm hf hw hA hB
  go_enter Try.func19, Try.ntmps19
  go_wp2_with fail
  have KB : Hid (∀ w', Below w.heap.size w w' → w'.cell? ⟨g, 0, none⟩ = some (.int .i64 (r : Int)) ∧ w'.cell? ⟨h, 0, none⟩ = some (.int .i64 (r : Int)) ∧ w'.cell? ⟨g, 1, none⟩ = some (.int .i64 (c : Int)) ∧ w'.cell? ⟨h, 1, none⟩ = some (.int .i64 (c' : Int))) := fun w' h => ⟨cnow h x0, cnow h y0, cnow h x1, cnow h y1⟩
  refine wp_region_tail (fun w' => w'.cell? ⟨g, 0, none⟩ = some (.int .i64 (r : Int)) ∧ w'.cell? ⟨h, 0, none⟩ = some (.int .i64 (r : Int)) ∧ w'.cell? ⟨g, 1, none⟩ = some (.int .i64 (c : Int)) ∧ w'.cell? ⟨h, 1, none⟩ = some (.int .i64 (c' : Int))) 19 (by kernel_rfl) ?_
  obtain ⟨D1, hD⟩ : ∃ D1, w.drew = D1 := ⟨_, rfl⟩
  have GB : Hid (Below w.heap.size w D1) := by unfold Hid; rw [← hD]; exact (Below.refl _ _).drew
  rw [hD]
  clear hD
  refine wpAnyT_take (i := 0) (oi := { dst := some 15, op := Op.move (Operand.tmp 0), type := 27, pos := "whole.go:34", after := #[], guard := none }) (v := (.pointer (some ⟨g, 0, none⟩))) rfl (by kernel_rfl) (fun _ _ _ h => h) (Or.inl ⟨by rfl, ?_⟩) (KB.out _ GB.out) ?_
  · intro w hSw
    (try dsimp only at hSw)
    go_simp
  simp only [Act.put, List.setIfInBounds_toArray, List.set_cons_zero, List.set_cons_succ]
  refine wpAnyT_take (i := 1) (oi := { dst := some 16, op := Op.nilCheck (Operand.tmp 15), type := 0, pos := "whole.go:34", after := #[{ on := 0, ground := Ground.data }], guard := none }) (v := (.pointer (some ⟨g, 0, none⟩))) rfl (by kernel_rfl) (fun _ _ _ h => h) (Or.inl ⟨by rfl, ?_⟩) (KB.out _ GB.out) ?_
  · intro w hSw
    (try dsimp only at hSw)
    go_simp
  simp only [Act.put, List.setIfInBounds_toArray, List.set_cons_zero, List.set_cons_succ]
  refine wpAnyT_take (i := 2) (oi := { dst := some 17, op := Op.fieldAddr 68 (Operand.tmp 16) 0, type := 0, pos := "whole.go:34", after := #[{ on := 1, ground := Ground.data }], guard := none }) (v := (.pointer (some ⟨g, 0, none⟩))) rfl (by kernel_rfl) (fun _ _ _ h => h) (Or.inl ⟨by rfl, ?_⟩) (KB.out _ GB.out) ?_
  · intro w hSw
    (try dsimp only at hSw)
    go_simp
  simp only [Act.put, List.setIfInBounds_toArray, List.set_cons_zero, List.set_cons_succ]
  refine wpAnyT_take (i := 3) (oi := { dst := some 18, op := Op.load 3 (Operand.tmp 17), type := 3, pos := "whole.go:34", after := #[{ on := 2, ground := Ground.data }], guard := none }) (v := (.int .i64 (r : Int))) rfl (by kernel_rfl) (fun _ _ _ h => h) (Or.inl ⟨by rfl, ?_⟩) (KB.out _ GB.out) ?_
  · intro w hSw
    (try dsimp only at hSw)
    go_simp
  simp only [Act.put, List.setIfInBounds_toArray, List.set_cons_zero, List.set_cons_succ]
  refine wpAnyT_take (i := 4) (oi := { dst := some 19, op := Op.move (Operand.tmp 1), type := 27, pos := "whole.go:34", after := #[], guard := none }) (v := (.pointer (some ⟨h, 0, none⟩))) rfl (by kernel_rfl) (fun _ _ _ h => h) (Or.inl ⟨by rfl, ?_⟩) (KB.out _ GB.out) ?_
  · intro w hSw
    (try dsimp only at hSw)
    go_simp
  simp only [Act.put, List.setIfInBounds_toArray, List.set_cons_zero, List.set_cons_succ]
  refine wpAnyT_take (i := 5) (oi := { dst := some 20, op := Op.nilCheck (Operand.tmp 19), type := 0, pos := "whole.go:34", after := #[{ on := 4, ground := Ground.data }], guard := none }) (v := (.pointer (some ⟨h, 0, none⟩))) rfl (by kernel_rfl) (fun _ _ _ h => h) (Or.inl ⟨by rfl, ?_⟩) (KB.out _ GB.out) ?_
  · intro w hSw
    (try dsimp only at hSw)
    go_simp
  simp only [Act.put, List.setIfInBounds_toArray, List.set_cons_zero, List.set_cons_succ]
  refine wpAnyT_take (i := 6) (oi := { dst := some 21, op := Op.fieldAddr 68 (Operand.tmp 20) 0, type := 0, pos := "whole.go:34", after := #[{ on := 5, ground := Ground.data }], guard := none }) (v := (.pointer (some ⟨h, 0, none⟩))) rfl (by kernel_rfl) (fun _ _ _ h => h) (Or.inl ⟨by rfl, ?_⟩) (KB.out _ GB.out) ?_
  · intro w hSw
    (try dsimp only at hSw)
    go_simp
  simp only [Act.put, List.setIfInBounds_toArray, List.set_cons_zero, List.set_cons_succ]
  refine wpAnyT_take (i := 7) (oi := { dst := some 22, op := Op.load 3 (Operand.tmp 21), type := 3, pos := "whole.go:34", after := #[{ on := 6, ground := Ground.data }], guard := none }) (v := (.int .i64 (r : Int))) rfl (by kernel_rfl) (fun _ _ _ h => h) (Or.inl ⟨by rfl, ?_⟩) (KB.out _ GB.out) ?_
  · intro w hSw
    (try dsimp only at hSw)
    go_simp
  simp only [Act.put, List.setIfInBounds_toArray, List.set_cons_zero, List.set_cons_succ]
  refine wpAnyT_take (i := 8) (oi := { dst := some 23, op := Op.binOp BinOp.neq 3 (Operand.tmp 18) (Operand.tmp 22) 3, type := 4, pos := "whole.go:34", after := #[{ on := 3, ground := Ground.data }, { on := 7, ground := Ground.data }], guard := none }) (v := (.bool false)) rfl (by kernel_rfl) (fun _ _ _ h => h) (Or.inl ⟨by rfl, ?_⟩) (KB.out _ GB.out) ?_
  · intro w hSw
    (try dsimp only at hSw)
    go_simp
  simp only [Act.put, List.setIfInBounds_toArray, List.set_cons_zero, List.set_cons_succ]
  refine wpAnyT_take (i := 9) (oi := { dst := some 24, op := Op.move (Operand.tmp 23), type := 4, pos := "whole.go:34", after := #[{ on := 8, ground := Ground.data }], guard := none }) (v := (.bool false)) rfl (by kernel_rfl) (fun _ _ _ h => h) (Or.inl ⟨by rfl, ?_⟩) (KB.out _ GB.out) ?_
  · intro w hSw
    (try dsimp only at hSw)
    go_simp
  simp only [Act.put, List.setIfInBounds_toArray, List.set_cons_zero, List.set_cons_succ]
  refine wpAnyT_take (i := 10) (oi := { dst := some 25, op := Op.move (Operand.tmp 0), type := 27, pos := "whole.go:34", after := #[{ on := 9, ground := Ground.guard }], guard := some (9, false) }) (v := (.pointer (some ⟨g, 0, none⟩))) rfl (by kernel_rfl) (fun _ _ _ h => h) (Or.inl ⟨by rfl, ?_⟩) (KB.out _ GB.out) ?_
  · intro w hSw
    (try dsimp only at hSw)
    go_simp
  simp only [Act.put, List.setIfInBounds_toArray, List.set_cons_zero, List.set_cons_succ]
  refine wpAnyT_take (i := 11) (oi := { dst := some 26, op := Op.nilCheck (Operand.tmp 25), type := 0, pos := "whole.go:34", after := #[{ on := 10, ground := Ground.data }, { on := 9, ground := Ground.guard }], guard := some (9, false) }) (v := (.pointer (some ⟨g, 0, none⟩))) rfl (by kernel_rfl) (fun _ _ _ h => h) (Or.inl ⟨by rfl, ?_⟩) (KB.out _ GB.out) ?_
  · intro w hSw
    (try dsimp only at hSw)
    go_simp
  simp only [Act.put, List.setIfInBounds_toArray, List.set_cons_zero, List.set_cons_succ]
  refine wpAnyT_take (i := 12) (oi := { dst := some 27, op := Op.fieldAddr 68 (Operand.tmp 26) 1, type := 0, pos := "whole.go:34", after := #[{ on := 11, ground := Ground.data }, { on := 9, ground := Ground.guard }], guard := some (9, false) }) (v := (.pointer (some ⟨g, 1, none⟩))) rfl (by kernel_rfl) (fun _ _ _ h => h) (Or.inl ⟨by rfl, ?_⟩) (KB.out _ GB.out) ?_
  · intro w hSw
    (try dsimp only at hSw)
    go_simp
  simp only [Act.put, List.setIfInBounds_toArray, List.set_cons_zero, List.set_cons_succ]
  refine wpAnyT_take (i := 13) (oi := { dst := some 28, op := Op.load 3 (Operand.tmp 27), type := 3, pos := "whole.go:34", after := #[{ on := 12, ground := Ground.data }, { on := 9, ground := Ground.guard }], guard := some (9, false) }) (v := (.int .i64 (c : Int))) rfl (by kernel_rfl) (fun _ _ _ h => h) (Or.inl ⟨by rfl, ?_⟩) (KB.out _ GB.out) ?_
  · intro w hSw
    (try dsimp only at hSw)
    go_simp
  simp only [Act.put, List.setIfInBounds_toArray, List.set_cons_zero, List.set_cons_succ]
  refine wpAnyT_take (i := 14) (oi := { dst := some 29, op := Op.move (Operand.tmp 1), type := 27, pos := "whole.go:34", after := #[{ on := 9, ground := Ground.guard }], guard := some (9, false) }) (v := (.pointer (some ⟨h, 0, none⟩))) rfl (by kernel_rfl) (fun _ _ _ h => h) (Or.inl ⟨by rfl, ?_⟩) (KB.out _ GB.out) ?_
  · intro w hSw
    (try dsimp only at hSw)
    go_simp
  simp only [Act.put, List.setIfInBounds_toArray, List.set_cons_zero, List.set_cons_succ]
  refine wpAnyT_take (i := 15) (oi := { dst := some 30, op := Op.nilCheck (Operand.tmp 29), type := 0, pos := "whole.go:34", after := #[{ on := 14, ground := Ground.data }, { on := 9, ground := Ground.guard }], guard := some (9, false) }) (v := (.pointer (some ⟨h, 0, none⟩))) rfl (by kernel_rfl) (fun _ _ _ h => h) (Or.inl ⟨by rfl, ?_⟩) (KB.out _ GB.out) ?_
  · intro w hSw
    (try dsimp only at hSw)
    go_simp
  simp only [Act.put, List.setIfInBounds_toArray, List.set_cons_zero, List.set_cons_succ]
  refine wpAnyT_take (i := 16) (oi := { dst := some 31, op := Op.fieldAddr 68 (Operand.tmp 30) 1, type := 0, pos := "whole.go:34", after := #[{ on := 15, ground := Ground.data }, { on := 9, ground := Ground.guard }], guard := some (9, false) }) (v := (.pointer (some ⟨h, 1, none⟩))) rfl (by kernel_rfl) (fun _ _ _ h => h) (Or.inl ⟨by rfl, ?_⟩) (KB.out _ GB.out) ?_
  · intro w hSw
    (try dsimp only at hSw)
    go_simp
  simp only [Act.put, List.setIfInBounds_toArray, List.set_cons_zero, List.set_cons_succ]
  refine wpAnyT_take (i := 17) (oi := { dst := some 32, op := Op.load 3 (Operand.tmp 31), type := 3, pos := "whole.go:34", after := #[{ on := 16, ground := Ground.data }, { on := 9, ground := Ground.guard }], guard := some (9, false) }) (v := (.int .i64 (c' : Int))) rfl (by kernel_rfl) (fun _ _ _ h => h) (Or.inl ⟨by rfl, ?_⟩) (KB.out _ GB.out) ?_
  · intro w hSw
    (try dsimp only at hSw)
    go_simp
  simp only [Act.put, List.setIfInBounds_toArray, List.set_cons_zero, List.set_cons_succ]
  refine wpAnyT_take (i := 18) (oi := { dst := some 33, op := Op.binOp BinOp.neq 3 (Operand.tmp 28) (Operand.tmp 32) 3, type := 4, pos := "whole.go:34", after := #[{ on := 13, ground := Ground.data }, { on := 17, ground := Ground.data }, { on := 9, ground := Ground.guard }], guard := some (9, false) }) (v := (.bool true)) rfl (by kernel_rfl) (fun _ _ _ h => h) (Or.inl ⟨by rfl, ?_⟩) (KB.out _ GB.out) ?_
  · intro w hSw
    (try dsimp only at hSw)
    go_simp
  simp only [Act.put, List.setIfInBounds_toArray, List.set_cons_zero, List.set_cons_succ]
  refine wpAnyT_one (i := 19) (o := { dst := some 34, op := Op.pick (Operand.tmp 24) (Operand.const (Value.bool true)) (Operand.tmp 33), type := 4, pos := "whole.go:34", after := #[{ on := 9, ground := Ground.data }, { on := 18, ground := Ground.data }], guard := none }) (by kernel_rfl) rfl (fun K hK => ?_)
  go_simp
  refine hK.out _ _ (fun h => absurd h (by decide)) ?_
  clear hK
  try simp only [Act.put]
  refine wpAnyT_done (by kernel_rfl) ?_ _
  have FIN : Hid (Says w (.tuple #[.pointer none, .int .i64 2]) (.returned (.tuple #[.pointer none, .int .i64 2])) D1) := ⟨rfl, GB.out⟩
  clear GB KB
  go_wp2
  go_ret2
  exact FIN.out
set_option maxHeartbeats 3200000 in
set_option maxRecDepth 100000 in
theorem addG_yes {w : World} {g bg h bh r c ka kb : Nat} {A B : Nat → Nat → Int} (hA : Gq w g bg r c A ka) (hB : Gq w h bh r c B kb) (hk : ka + kb + 1 < 35184372088832) (hr : r ≤ 64) (hc : c ≤ 64) : Calls Try.prog 19 #[.pointer (some ⟨g, 0, none⟩), .pointer (some ⟨h, 0, none⟩)] w (MadeG2 w r c (fun i j => A i j + B i j) (max ka kb + 1)) := by
  obtain ⟨f, n, hg, hm, hf, hw⟩ := id hB
  have x0 := hA.gd.1.at (i := 0) rfl
  have x1 := hA.gd.1.at (i := 1) rfl
  have y0 := hg.1.at (i := 0) rfl
  have y1 := hg.1.at (i := 1) rfl
  have GA := hid hA
  have HG := hid hg
  have HM := hid hm
  have HF := hid hf
  have HWI := hid hw
  clear hg hm hf hw hA hB
  go_enter Try.func19, Try.ntmps19
  go_wp2_with fail
  have KB : Hid (∀ w', Below w.heap.size w w' → w'.cell? ⟨g, 0, none⟩ = some (.int .i64 (r : Int)) ∧ w'.cell? ⟨h, 0, none⟩ = some (.int .i64 (r : Int)) ∧ w'.cell? ⟨g, 1, none⟩ = some (.int .i64 (c : Int)) ∧ w'.cell? ⟨h, 1, none⟩ = some (.int .i64 (c : Int))) := fun w' h => ⟨cnow h x0, cnow h y0, cnow h x1, cnow h y1⟩
  refine wp_region_tail (fun w' => w'.cell? ⟨g, 0, none⟩ = some (.int .i64 (r : Int)) ∧ w'.cell? ⟨h, 0, none⟩ = some (.int .i64 (r : Int)) ∧ w'.cell? ⟨g, 1, none⟩ = some (.int .i64 (c : Int)) ∧ w'.cell? ⟨h, 1, none⟩ = some (.int .i64 (c : Int))) 19 (by kernel_rfl) ?_
  obtain ⟨D1, hD⟩ : ∃ D1, w.drew = D1 := ⟨_, rfl⟩
  have GB : Hid (Below w.heap.size w D1) := by unfold Hid; rw [← hD]; exact (Below.refl _ _).drew
  rw [hD]
  clear hD
  refine wpAnyT_take (i := 0) (oi := { dst := some 15, op := Op.move (Operand.tmp 0), type := 27, pos := "whole.go:34", after := #[], guard := none }) (v := (.pointer (some ⟨g, 0, none⟩))) rfl (by kernel_rfl) (fun _ _ _ h => h) (Or.inl ⟨by rfl, ?_⟩) (KB.out _ GB.out) ?_
  · intro w hSw
    (try dsimp only at hSw)
    go_simp
  simp only [Act.put, List.setIfInBounds_toArray, List.set_cons_zero, List.set_cons_succ]
  refine wpAnyT_take (i := 1) (oi := { dst := some 16, op := Op.nilCheck (Operand.tmp 15), type := 0, pos := "whole.go:34", after := #[{ on := 0, ground := Ground.data }], guard := none }) (v := (.pointer (some ⟨g, 0, none⟩))) rfl (by kernel_rfl) (fun _ _ _ h => h) (Or.inl ⟨by rfl, ?_⟩) (KB.out _ GB.out) ?_
  · intro w hSw
    (try dsimp only at hSw)
    go_simp
  simp only [Act.put, List.setIfInBounds_toArray, List.set_cons_zero, List.set_cons_succ]
  refine wpAnyT_take (i := 2) (oi := { dst := some 17, op := Op.fieldAddr 68 (Operand.tmp 16) 0, type := 0, pos := "whole.go:34", after := #[{ on := 1, ground := Ground.data }], guard := none }) (v := (.pointer (some ⟨g, 0, none⟩))) rfl (by kernel_rfl) (fun _ _ _ h => h) (Or.inl ⟨by rfl, ?_⟩) (KB.out _ GB.out) ?_
  · intro w hSw
    (try dsimp only at hSw)
    go_simp
  simp only [Act.put, List.setIfInBounds_toArray, List.set_cons_zero, List.set_cons_succ]
  refine wpAnyT_take (i := 3) (oi := { dst := some 18, op := Op.load 3 (Operand.tmp 17), type := 3, pos := "whole.go:34", after := #[{ on := 2, ground := Ground.data }], guard := none }) (v := (.int .i64 (r : Int))) rfl (by kernel_rfl) (fun _ _ _ h => h) (Or.inl ⟨by rfl, ?_⟩) (KB.out _ GB.out) ?_
  · intro w hSw
    (try dsimp only at hSw)
    go_simp
  simp only [Act.put, List.setIfInBounds_toArray, List.set_cons_zero, List.set_cons_succ]
  refine wpAnyT_take (i := 4) (oi := { dst := some 19, op := Op.move (Operand.tmp 1), type := 27, pos := "whole.go:34", after := #[], guard := none }) (v := (.pointer (some ⟨h, 0, none⟩))) rfl (by kernel_rfl) (fun _ _ _ h => h) (Or.inl ⟨by rfl, ?_⟩) (KB.out _ GB.out) ?_
  · intro w hSw
    (try dsimp only at hSw)
    go_simp
  simp only [Act.put, List.setIfInBounds_toArray, List.set_cons_zero, List.set_cons_succ]
  refine wpAnyT_take (i := 5) (oi := { dst := some 20, op := Op.nilCheck (Operand.tmp 19), type := 0, pos := "whole.go:34", after := #[{ on := 4, ground := Ground.data }], guard := none }) (v := (.pointer (some ⟨h, 0, none⟩))) rfl (by kernel_rfl) (fun _ _ _ h => h) (Or.inl ⟨by rfl, ?_⟩) (KB.out _ GB.out) ?_
  · intro w hSw
    (try dsimp only at hSw)
    go_simp
  simp only [Act.put, List.setIfInBounds_toArray, List.set_cons_zero, List.set_cons_succ]
  refine wpAnyT_take (i := 6) (oi := { dst := some 21, op := Op.fieldAddr 68 (Operand.tmp 20) 0, type := 0, pos := "whole.go:34", after := #[{ on := 5, ground := Ground.data }], guard := none }) (v := (.pointer (some ⟨h, 0, none⟩))) rfl (by kernel_rfl) (fun _ _ _ h => h) (Or.inl ⟨by rfl, ?_⟩) (KB.out _ GB.out) ?_
  · intro w hSw
    (try dsimp only at hSw)
    go_simp
  simp only [Act.put, List.setIfInBounds_toArray, List.set_cons_zero, List.set_cons_succ]
  refine wpAnyT_take (i := 7) (oi := { dst := some 22, op := Op.load 3 (Operand.tmp 21), type := 3, pos := "whole.go:34", after := #[{ on := 6, ground := Ground.data }], guard := none }) (v := (.int .i64 (r : Int))) rfl (by kernel_rfl) (fun _ _ _ h => h) (Or.inl ⟨by rfl, ?_⟩) (KB.out _ GB.out) ?_
  · intro w hSw
    (try dsimp only at hSw)
    go_simp
  simp only [Act.put, List.setIfInBounds_toArray, List.set_cons_zero, List.set_cons_succ]
  refine wpAnyT_take (i := 8) (oi := { dst := some 23, op := Op.binOp BinOp.neq 3 (Operand.tmp 18) (Operand.tmp 22) 3, type := 4, pos := "whole.go:34", after := #[{ on := 3, ground := Ground.data }, { on := 7, ground := Ground.data }], guard := none }) (v := (.bool false)) rfl (by kernel_rfl) (fun _ _ _ h => h) (Or.inl ⟨by rfl, ?_⟩) (KB.out _ GB.out) ?_
  · intro w hSw
    (try dsimp only at hSw)
    go_simp
  simp only [Act.put, List.setIfInBounds_toArray, List.set_cons_zero, List.set_cons_succ]
  refine wpAnyT_take (i := 9) (oi := { dst := some 24, op := Op.move (Operand.tmp 23), type := 4, pos := "whole.go:34", after := #[{ on := 8, ground := Ground.data }], guard := none }) (v := (.bool false)) rfl (by kernel_rfl) (fun _ _ _ h => h) (Or.inl ⟨by rfl, ?_⟩) (KB.out _ GB.out) ?_
  · intro w hSw
    (try dsimp only at hSw)
    go_simp
  simp only [Act.put, List.setIfInBounds_toArray, List.set_cons_zero, List.set_cons_succ]
  refine wpAnyT_take (i := 10) (oi := { dst := some 25, op := Op.move (Operand.tmp 0), type := 27, pos := "whole.go:34", after := #[{ on := 9, ground := Ground.guard }], guard := some (9, false) }) (v := (.pointer (some ⟨g, 0, none⟩))) rfl (by kernel_rfl) (fun _ _ _ h => h) (Or.inl ⟨by rfl, ?_⟩) (KB.out _ GB.out) ?_
  · intro w hSw
    (try dsimp only at hSw)
    go_simp
  simp only [Act.put, List.setIfInBounds_toArray, List.set_cons_zero, List.set_cons_succ]
  refine wpAnyT_take (i := 11) (oi := { dst := some 26, op := Op.nilCheck (Operand.tmp 25), type := 0, pos := "whole.go:34", after := #[{ on := 10, ground := Ground.data }, { on := 9, ground := Ground.guard }], guard := some (9, false) }) (v := (.pointer (some ⟨g, 0, none⟩))) rfl (by kernel_rfl) (fun _ _ _ h => h) (Or.inl ⟨by rfl, ?_⟩) (KB.out _ GB.out) ?_
  · intro w hSw
    (try dsimp only at hSw)
    go_simp
  simp only [Act.put, List.setIfInBounds_toArray, List.set_cons_zero, List.set_cons_succ]
  refine wpAnyT_take (i := 12) (oi := { dst := some 27, op := Op.fieldAddr 68 (Operand.tmp 26) 1, type := 0, pos := "whole.go:34", after := #[{ on := 11, ground := Ground.data }, { on := 9, ground := Ground.guard }], guard := some (9, false) }) (v := (.pointer (some ⟨g, 1, none⟩))) rfl (by kernel_rfl) (fun _ _ _ h => h) (Or.inl ⟨by rfl, ?_⟩) (KB.out _ GB.out) ?_
  · intro w hSw
    (try dsimp only at hSw)
    go_simp
  simp only [Act.put, List.setIfInBounds_toArray, List.set_cons_zero, List.set_cons_succ]
  refine wpAnyT_take (i := 13) (oi := { dst := some 28, op := Op.load 3 (Operand.tmp 27), type := 3, pos := "whole.go:34", after := #[{ on := 12, ground := Ground.data }, { on := 9, ground := Ground.guard }], guard := some (9, false) }) (v := (.int .i64 (c : Int))) rfl (by kernel_rfl) (fun _ _ _ h => h) (Or.inl ⟨by rfl, ?_⟩) (KB.out _ GB.out) ?_
  · intro w hSw
    (try dsimp only at hSw)
    go_simp
  simp only [Act.put, List.setIfInBounds_toArray, List.set_cons_zero, List.set_cons_succ]
  refine wpAnyT_take (i := 14) (oi := { dst := some 29, op := Op.move (Operand.tmp 1), type := 27, pos := "whole.go:34", after := #[{ on := 9, ground := Ground.guard }], guard := some (9, false) }) (v := (.pointer (some ⟨h, 0, none⟩))) rfl (by kernel_rfl) (fun _ _ _ h => h) (Or.inl ⟨by rfl, ?_⟩) (KB.out _ GB.out) ?_
  · intro w hSw
    (try dsimp only at hSw)
    go_simp
  simp only [Act.put, List.setIfInBounds_toArray, List.set_cons_zero, List.set_cons_succ]
  refine wpAnyT_take (i := 15) (oi := { dst := some 30, op := Op.nilCheck (Operand.tmp 29), type := 0, pos := "whole.go:34", after := #[{ on := 14, ground := Ground.data }, { on := 9, ground := Ground.guard }], guard := some (9, false) }) (v := (.pointer (some ⟨h, 0, none⟩))) rfl (by kernel_rfl) (fun _ _ _ h => h) (Or.inl ⟨by rfl, ?_⟩) (KB.out _ GB.out) ?_
  · intro w hSw
    (try dsimp only at hSw)
    go_simp
  simp only [Act.put, List.setIfInBounds_toArray, List.set_cons_zero, List.set_cons_succ]
  refine wpAnyT_take (i := 16) (oi := { dst := some 31, op := Op.fieldAddr 68 (Operand.tmp 30) 1, type := 0, pos := "whole.go:34", after := #[{ on := 15, ground := Ground.data }, { on := 9, ground := Ground.guard }], guard := some (9, false) }) (v := (.pointer (some ⟨h, 1, none⟩))) rfl (by kernel_rfl) (fun _ _ _ h => h) (Or.inl ⟨by rfl, ?_⟩) (KB.out _ GB.out) ?_
  · intro w hSw
    (try dsimp only at hSw)
    go_simp
  simp only [Act.put, List.setIfInBounds_toArray, List.set_cons_zero, List.set_cons_succ]
  refine wpAnyT_take (i := 17) (oi := { dst := some 32, op := Op.load 3 (Operand.tmp 31), type := 3, pos := "whole.go:34", after := #[{ on := 16, ground := Ground.data }, { on := 9, ground := Ground.guard }], guard := some (9, false) }) (v := (.int .i64 (c : Int))) rfl (by kernel_rfl) (fun _ _ _ h => h) (Or.inl ⟨by rfl, ?_⟩) (KB.out _ GB.out) ?_
  · intro w hSw
    (try dsimp only at hSw)
    go_simp
  simp only [Act.put, List.setIfInBounds_toArray, List.set_cons_zero, List.set_cons_succ]
  refine wpAnyT_take (i := 18) (oi := { dst := some 33, op := Op.binOp BinOp.neq 3 (Operand.tmp 28) (Operand.tmp 32) 3, type := 4, pos := "whole.go:34", after := #[{ on := 13, ground := Ground.data }, { on := 17, ground := Ground.data }, { on := 9, ground := Ground.guard }], guard := some (9, false) }) (v := (.bool false)) rfl (by kernel_rfl) (fun _ _ _ h => h) (Or.inl ⟨by rfl, ?_⟩) (KB.out _ GB.out) ?_
  · intro w hSw
    (try dsimp only at hSw)
    go_simp
  simp only [Act.put, List.setIfInBounds_toArray, List.set_cons_zero, List.set_cons_succ]
  refine wpAnyT_one (i := 19) (o := { dst := some 34, op := Op.pick (Operand.tmp 24) (Operand.const (Value.bool true)) (Operand.tmp 33), type := 4, pos := "whole.go:34", after := #[{ on := 9, ground := Ground.data }, { on := 18, ground := Ground.data }], guard := none }) (by kernel_rfl) rfl (fun K hK => ?_)
  go_simp
  refine hK.out _ _ (fun h => absurd h (by decide)) ?_
  clear hK
  try simp only [Act.put]
  refine wpAnyT_done (by kernel_rfl) ?_ _
  have G := hid GB.out
  have GA1 := hid (GA.out.now GB.out)
  have HG1 := hid (HG.out.now GB.out)
  have HM1 := hid (HM.out.now GB.out)
  have HF1 := hid (HF.out.now GB.out)
  have hbl : bh < w.heap.size := HM.out.lt
  have HBL := hid hbl
  have HZA : Hid (∀ i j, ((A i j).natAbs : Int) < pw ka) := by
    obtain ⟨f0, n0, -, -, h3, -⟩ := GA.out
    exact fun i j => (h3.getD i j).zi.lt
  clear GB KB HG HM HF x0 x1 y0 y1 hbl GA
  go_wp2_with fail
  refine (copy_any GA1.out).mono ?_
  rintro e w2 ⟨g', b', rfl, hq, hgg, hbb, b1⟩
  have hD0 := (show Below _ _ _ from G.out).size
  have EB : Hid (w.heap.size ≤ g' ∧ w.heap.size ≤ b') := ⟨by omega, by omega⟩
  have EQ := hid hq
  replace G := hid (below_step G.out b1)
  have x2 := (HG1.out.now b1).1.at (i := 2) rfl
  replace HM1 := hid (HM1.out.now b1)
  replace HF1 := hid (HF1.out.now b1)
  clear b1 hq hgg hbb hD0 GA1 HG1
  go_wp2_with (first | (at_range; refine wpList_range10 _ rfl _ _ rfl _ _ ks10 Try.map10 bh n f rfl HM1.out ?_; intro w4 hrg hbw hsz) | go_in)
  go_frame
  have H0 : Hid (HypAdd w g' b' w2.heap.size bh n r c ka kb f A B n w4) :=
    ⟨_, hrg, ((EQ.out.now hbw).more (by omega)).ext (fun i j => by rw [show adF _ A B i j = A i j + lft _ B i j from rfl, ← lft_start HF1.out i j]; simp), HF1.out.now hbw, below_step G.out hbw⟩
  have HIT : Hid (w.heap.size ≤ w2.heap.size) := G.out.size
  obtain ⟨it, hit⟩ : ∃ it, w2.heap.size = it := ⟨_, rfl⟩
  have HBT : Hid (b' ≠ it) := fun e => by
    obtain ⟨f0, n0, -, h2, -⟩ := EQ.out
    have := h2.lt
    omega
  rw [hit] at H0 HIT ⊢
  clear hrg hbw hsz hit HM1 HF1 G EQ x2
  go_loopg [7] n (fun gk s4 wx => HypAdd w g' b' it bh n r c ka kb f A B gk wx)
  case atStart => exact H0.out
  case round =>
    clear H0
    obtain ⟨left, hrg, hgq, hnf, hG⟩ := hrel
    have RG := hid hrg
    have GQ := hid hgq
    have NF := hid hnf
    have G := hid hG
    clear hrg hgq hnf hG
    go_wp2_with (first | (at_next; refine wpList_next10 _ rfl _ rfl _ ks10 bh it n f left gk rfl RG.out ?_ ?_) | go_in)
    · intro hl
      have GF : Hid (Gq wr g' b' r c (fun i j => A i j + B i j) (max ka kb + 1)) := GQ.out.ext (fun i j => by show A i j + lft left B i j = _; rw [lft_end hl.out])
      obtain ⟨f0, n0, e1, e2, e3, e4⟩ := id GF.out
      have hn4 : n0 ≤ 4096 := Nat.le_trans (e2.count2 e4) (Nat.mul_le_mul hr hc)
      have HU := hid (unless_any e1 e2 hn4)
      have FIN : Hid (MadeG2 w r c (fun i j => A i j + B i j) (max ka kb + 1) (.returned (.tuple #[.pointer (some ⟨g', 0, none⟩), .int .i64 0])) wr) := ⟨_, _, rfl, GF.out, EB.out.1, EB.out.2, G.out⟩
      clear RG GQ NF G hl e1 e2 e3 e4 hn4 GF
      go_wp2_with fail
      refine HU.out.mono ?_
      rintro e w6 ⟨rfl, hw6⟩
      have hw7 := hw6.symm
      subst hw7
      clear hw6 HU
      go_wp2
      go_ret2
      exact FIN.out
    · intro i j v w5 cnt hca hen
      obtain ⟨hok, hfs, hls, hrg, hlt, hgr, hsz⟩ := hca.out
      clear hca
      have hcl := RG.out.cl hgr
      obtain ⟨hne0, zm⟩ := (NF.out.cl hcl).at hfs
      obtain ⟨m, xs, a, c0, rfl, -⟩ := id zm
      have RG1 := hid hrg
      have GQ1 := hid (GQ.out.kept hgr hcl HBT.out)
      have NF1 := hid (NF.out.cl hcl)
      have G1 := hid (below_grown G.out hgr HIT.out)
      have ZM := hid zm
      have HLS := hid hls
      have HOK := hid hok
      have HWS := hid (HWI.out (i, j) _ hfs)
      have HLT := hid hlt
      clear zm hne0 hls hok hfs hrg hgr hsz hcl RG GQ NF G hlt
      obtain ⟨V6, hV⟩ : ∃ V6, (w5.alloc (.cells #[.int .i64 (i : Int), .int .i64 (j : Int)] 71)).alloc (duo (.bool m) (.slice a xs.length c0)) = V6 := ⟨_, rfl⟩
      obtain ⟨b6, sz6⟩ := alloc2 w5 (.cells #[.int .i64 (i : Int), .int .i64 (j : Int)] 71) (duo (.bool m) (.slice a xs.length c0))
      rw [hV] at b6 sz6
      have PS : Cel V6 w5.heap.size 71 [.int .i64 (i : Int), .int .i64 (j : Int)] := by
        rw [← hV]
        exact (Cel.new w5 71 [.int .i64 (i : Int), .int .i64 (j : Int)]).step ((Below.refl _ _).alloc (Nat.le_refl _) _)
      have PV : Duo V6 (w5.heap.size + 1) (.bool m) (.slice a xs.length c0) := by
        rw [← hV]
        have := heap_alloc_new (w5.alloc (.cells #[.int .i64 (i : Int), .int .i64 (j : Int)] 71)) (duo (.bool m) (.slice a xs.length c0))
        simpa [Duo] using this
      have RG2 := hid (RG1.out.now b6)
      obtain ⟨f', n', hg3, hm3, hf3, hw3⟩ := GQ1.out.now b6
      have HG3 := hid hg3
      have HM3 := hid hm3
      have HF3 := hid hf3
      have HW3 := hid hw3
      have NF2 := hid (NF1.out.now b6)
      have G2 := hid (below_step G1.out b6)
      have ZM2 := hid (ZM.out.now b6)
      have EV := hid hV
      have s0 := PS.at (i := 0) rfl
      have s1 := PS.at (i := 1) rfl
      have v0 := PV.c0
      have v1 := PV.c1
      have y2 := hg3.1.at (i := 2) rfl
      have HLK : Hid (∀ w', Below V6.heap.size V6 w' → (Instr.lookup 66 (.map (some b')) (.agg #[.int .i64 (i : Int), .int .i64 (j : Int)]) false).run Try.prog w' = .ok ((f' (i, j)).getD (.agg #[.bool false, .slice none 0 0])) w') := fun w' h' => by
        have := (HM3.out.now h').look ks10 Try.map10 (zero10 _) HOK.out false
        simpa [spv] using this
      have HU := hid (hf3.getD i j)
      rw [show adF left A B i j = A i j from by simp [adF, lft, HLS.out]] at HU
      generalize (f' (i, j)).getD (.agg #[.bool false, .slice none 0 0]) = u at *
      simp only [spv] at hen ⊢
      clear hV b6 sz6 RG1 GQ1 NF1 G1 ZM PS PV hg3 hm3 hf3 hw3
      go_wp2_with fail
      rw [EV.out]
      clear hen EV
      have KB : Hid (∀ w', Below V6.heap.size V6 w' → w'.cell? ⟨g', 2, none⟩ = some (.map (some b')) ∧ w'.cell? ⟨w5.heap.size, 0, none⟩ = some (.int .i64 (i : Int)) ∧ w'.cell? ⟨w5.heap.size, 1, none⟩ = some (.int .i64 (j : Int)) ∧ w'.cell? ⟨w5.heap.size + 1, 0, none⟩ = some (.bool m) ∧ w'.cell? ⟨w5.heap.size + 1, 1, none⟩ = some (.slice a xs.length c0) ∧ (Instr.lookup 66 (.map (some b')) (.agg #[.int .i64 (i : Int), .int .i64 (j : Int)]) false).run Try.prog w' = .ok u w') := fun w' h => ⟨cnow h y2, cnow h s0, cnow h s1, cnow h v0, cnow h v1, HLK.out _ h⟩
      refine wp_region_tail (fun w' => w'.cell? ⟨g', 2, none⟩ = some (.map (some b')) ∧ w'.cell? ⟨w5.heap.size, 0, none⟩ = some (.int .i64 (i : Int)) ∧ w'.cell? ⟨w5.heap.size, 1, none⟩ = some (.int .i64 (j : Int)) ∧ w'.cell? ⟨w5.heap.size + 1, 0, none⟩ = some (.bool m) ∧ w'.cell? ⟨w5.heap.size + 1, 1, none⟩ = some (.slice a xs.length c0) ∧ (Instr.lookup 66 (.map (some b')) (.agg #[.int .i64 (i : Int), .int .i64 (j : Int)]) false).run Try.prog w' = .ok u w') 13 (by kernel_rfl) ?_
      obtain ⟨D1, hD⟩ : ∃ D1, V6.drew = D1 := ⟨_, rfl⟩
      have GB : Hid (Below V6.heap.size V6 D1) := by unfold Hid; rw [← hD]; exact (Below.refl _ _).drew
      rw [hD]
      clear hD
      refine wpAnyT_take (i := 0) (oi := { dst := some 47, op := Op.move (Operand.tmp 6), type := 27, pos := "whole.go:39", after := #[], guard := none }) (v := (.pointer (some ⟨g', 0, none⟩))) rfl (by kernel_rfl) (fun _ _ _ h => h) (Or.inl ⟨by rfl, ?_⟩) (KB.out _ GB.out) ?_
      · intro w hSw
        (try dsimp only at hSw)
        go_simp
      simp only [Act.put, List.setIfInBounds_toArray, List.set_cons_zero, List.set_cons_succ]
      refine wpAnyT_take (i := 1) (oi := { dst := some 48, op := Op.nilCheck (Operand.tmp 47), type := 0, pos := "whole.go:39", after := #[{ on := 0, ground := Ground.data }], guard := none }) (v := (.pointer (some ⟨g', 0, none⟩))) rfl (by kernel_rfl) (fun _ _ _ h => h) (Or.inl ⟨by rfl, ?_⟩) (KB.out _ GB.out) ?_
      · intro w hSw
        (try dsimp only at hSw)
        go_simp
      simp only [Act.put, List.setIfInBounds_toArray, List.set_cons_zero, List.set_cons_succ]
      refine wpAnyT_take (i := 2) (oi := { dst := some 49, op := Op.fieldAddr 68 (Operand.tmp 48) 2, type := 0, pos := "whole.go:39", after := #[{ on := 1, ground := Ground.data }], guard := none }) (v := (.pointer (some ⟨g', 2, none⟩))) rfl (by kernel_rfl) (fun _ _ _ h => h) (Or.inl ⟨by rfl, ?_⟩) (KB.out _ GB.out) ?_
      · intro w hSw
        (try dsimp only at hSw)
        go_simp
      simp only [Act.put, List.setIfInBounds_toArray, List.set_cons_zero, List.set_cons_succ]
      refine wpAnyT_take (i := 3) (oi := { dst := some 50, op := Op.load 66 (Operand.tmp 49), type := 66, pos := "whole.go:39", after := #[{ on := 2, ground := Ground.data }], guard := none }) (v := (.map (some b'))) rfl (by kernel_rfl) (fun _ _ _ h => h) (Or.inl ⟨by rfl, ?_⟩) (KB.out _ GB.out) ?_
      · intro w hSw
        (try dsimp only at hSw)
        go_simp
      simp only [Act.put, List.setIfInBounds_toArray, List.set_cons_zero, List.set_cons_succ]
      refine wpAnyT_take (i := 4) (oi := { dst := some 51, op := Op.load 71 (Operand.tmp 7), type := 71, pos := "whole.go:39", after := #[], guard := none }) (v := (.agg #[.int .i64 (i : Int), .int .i64 (j : Int)])) rfl (by kernel_rfl) (fun _ _ _ h => h) (Or.inl ⟨by rfl, ?_⟩) (KB.out _ GB.out) ?_
      · intro w hSw
        (try dsimp only at hSw)
        go_simp
      simp only [Act.put, List.setIfInBounds_toArray, List.set_cons_zero, List.set_cons_succ]
      refine wpAnyT_take (i := 5) (oi := { dst := some 52, op := Op.move (Operand.tmp 6), type := 27, pos := "whole.go:39", after := #[], guard := none }) (v := (.pointer (some ⟨g', 0, none⟩))) rfl (by kernel_rfl) (fun _ _ _ h => h) (Or.inl ⟨by rfl, ?_⟩) (KB.out _ GB.out) ?_
      · intro w hSw
        (try dsimp only at hSw)
        go_simp
      simp only [Act.put, List.setIfInBounds_toArray, List.set_cons_zero, List.set_cons_succ]
      refine wpAnyT_take (i := 6) (oi := { dst := some 53, op := Op.nilCheck (Operand.tmp 52), type := 0, pos := "whole.go:39", after := #[{ on := 5, ground := Ground.data }], guard := none }) (v := (.pointer (some ⟨g', 0, none⟩))) rfl (by kernel_rfl) (fun _ _ _ h => h) (Or.inl ⟨by rfl, ?_⟩) (KB.out _ GB.out) ?_
      · intro w hSw
        (try dsimp only at hSw)
        go_simp
      simp only [Act.put, List.setIfInBounds_toArray, List.set_cons_zero, List.set_cons_succ]
      refine wpAnyT_take (i := 7) (oi := { dst := some 54, op := Op.fieldAddr 68 (Operand.tmp 53) 2, type := 0, pos := "whole.go:39", after := #[{ on := 6, ground := Ground.data }], guard := none }) (v := (.pointer (some ⟨g', 2, none⟩))) rfl (by kernel_rfl) (fun _ _ _ h => h) (Or.inl ⟨by rfl, ?_⟩) (KB.out _ GB.out) ?_
      · intro w hSw
        (try dsimp only at hSw)
        go_simp
      simp only [Act.put, List.setIfInBounds_toArray, List.set_cons_zero, List.set_cons_succ]
      refine wpAnyT_take (i := 8) (oi := { dst := some 55, op := Op.load 66 (Operand.tmp 54), type := 66, pos := "whole.go:39", after := #[{ on := 7, ground := Ground.data }], guard := none }) (v := (.map (some b'))) rfl (by kernel_rfl) (fun _ _ _ h => h) (Or.inl ⟨by rfl, ?_⟩) (KB.out _ GB.out) ?_
      · intro w hSw
        (try dsimp only at hSw)
        go_simp
      simp only [Act.put, List.setIfInBounds_toArray, List.set_cons_zero, List.set_cons_succ]
      refine wpAnyT_take (i := 9) (oi := { dst := some 56, op := Op.load 71 (Operand.tmp 7), type := 71, pos := "whole.go:39", after := #[], guard := none }) (v := (.agg #[.int .i64 (i : Int), .int .i64 (j : Int)])) rfl (by kernel_rfl) (fun _ _ _ h => h) (Or.inl ⟨by rfl, ?_⟩) (KB.out _ GB.out) ?_
      · intro w hSw
        (try dsimp only at hSw)
        go_simp
      simp only [Act.put, List.setIfInBounds_toArray, List.set_cons_zero, List.set_cons_succ]
      refine wpAnyT_take (i := 10) (oi := { dst := some 57, op := Op.lookup 66 (Operand.tmp 55) (Operand.tmp 56) false, type := 35, pos := "whole.go:39", after := #[{ on := 8, ground := Ground.data }, { on := 9, ground := Ground.data }], guard := none }) (v := u) rfl (by kernel_rfl) (fun _ _ _ h => h) (Or.inl ⟨by rfl, ?_⟩) (KB.out _ GB.out) ?_
      · intro w hSw
        (try dsimp only at hSw)
        go_simp
      simp only [Act.put, List.setIfInBounds_toArray, List.set_cons_zero, List.set_cons_succ]
      refine wpAnyT_take (i := 11) (oi := { dst := some 58, op := Op.load 35 (Operand.tmp 8), type := 35, pos := "whole.go:39", after := #[], guard := none }) (v := (.agg #[.bool m, .slice a xs.length c0])) rfl (by kernel_rfl) (fun _ _ _ h => h) (Or.inl ⟨by rfl, ?_⟩) (KB.out _ GB.out) ?_
      · intro w hSw
        (try dsimp only at hSw)
        go_simp
      simp only [Act.put, List.setIfInBounds_toArray, List.set_cons_zero, List.set_cons_succ]
      refine wpAnyT_one (i := 12) (o := { dst := some 59, op := Op.call { callee := Callee.value (Operand.func 53), args := #[Operand.tmp 57, Operand.tmp 58], argTypes := #[35, 35] }, type := 35, pos := "whole.go:39", after := #[{ on := 10, ground := Ground.data }, { on := 11, ground := Ground.data }], guard := none }) (by kernel_rfl) rfl (fun K hK => ?_)
      go_simp
      go_at_call 53
      refine (add_z (HU.out.zi.now GB.out) (ZM2.out.zi.now GB.out) (by omega) (by omega)).mono ?_
      rintro e w2 ⟨v, rfl, m1, b⟩
      have lz2 := (show Below _ _ _ from b).size
      replace GB := hid (below_step GB.out b)
      have M1 := hid (m1.fit (abs_add (HZA.out i j) ZM2.out.zi.lt))
      clear m1
      clear b
      refine hK.out _ _ (fun _ => KB.out _ GB.out) ?_
      clear hK
      refine wpAnyT_one (i := 13) (o := { dst := some 60, op := Op.call { callee := Callee.value (Operand.func 33), args := #[Operand.tmp 50, Operand.tmp 51, Operand.tmp 59], argTypes := #[66, 71, 35] }, type := 0, pos := "whole.go:39", after := #[{ on := 3, ground := Ground.data }, { on := 4, ground := Ground.data }, { on := 12, ground := Ground.data }, { on := 12, ground := Ground.chain }], guard := none }) (by kernel_rfl) rfl (fun K hK => ?_)
      go_simp
      go_at_call 33
      refine (put_any (s := (i, j)) (HM3.out.now GB.out) (wide_room HG3.out.2.1 HG3.out.2.2 (HM3.out.count2 HW3.out)) HOK.out M1.out.zi).mono ?_
      rintro e wz ⟨rfl, q1, q2⟩
      have hm4 := HM3.out.now GB.out
      have RG3 := hid ((RG2.out.now GB.out).kept q2 (fun e => by have := EB.out.2; have := HBL.out; simp at e; omega) (fun e => HBT.out (by simpa using e.symm)))
      have GQ3 : Hid (Gq wz g' b' r c _ (max ka kb + 1)) := Gq.put (HG3.out.now GB.out) hm4 (HF3.out.now GB.out) HW3.out (M1.out.mono (Nat.zero_le _)) (s := (i, j)) HWS.out.1 HWS.out.2 q1 q2
      have NF3 := hid ((NF2.out.now GB.out).cl (hm4.cl q2))
      have G3 := hid (below_grown (below_step G2.out GB.out) q2 EB.out.2)
      clear q1 q2 hm4
      refine hK.out _ _ (fun h => absurd h (by decide)) ?_
      clear hK
      refine wpAnyT_done (by kernel_rfl) ?_ _
      have HN1 : Hid (HypAdd w g' b' it bh n r c ka kb f A B cnt wz) := ⟨_, RG3.out, GQ3.out.ext (adF_step HLS.out), NF3.out, G3.out⟩
      clear RG2 HG3 HM3 HF3 HW3 NF2 G2 ZM2 M1 GB KB s0 s1 v0 v1 y2 RG3 GQ3 NF3 G3 HLK HU
      go_wp2_with fail
      go_roundg cnt
      case rel => exact HN1.out
      case measure => exact HLT.out
end Go.Proofs.Ytachdicdfhfoaaa
