/-
  Ops10: rows and places that there are not; Clear, Swap.
-/
import Derived.Test.YtachdicdfhfoaaaQRowOps10
namespace Go.Proofs.Ytachdicdfhfoaaa
open Go.RowKit Go.ChangeMaps Go.MapKept
set_option linter.unusedVariables false

theorem hasRow_no {w : World} {g b r c : Nat} {i : Int} (h : Gd w g b r c) (hi : i < 0 ∨ (r : Int) ≤ i) : Calls Try.prog 40 #[.pointer (some ⟨g, 0, none⟩), .int .i64 i] w (Still w (.bool false)) := by
  have x0 := h.1.at (i := 0) rfl
  clear h
  by_cases h1 : (0 : Int) ≤ i
  · have h2 : ¬ i < (r : Int) := by omega
    clear hi
    go_enter Try.func40, Try.ntmps40
    go_wp2
    go_ret
    exact ⟨rfl, rfl⟩
  · clear hi
    go_enter Try.func40, Try.ntmps40
    go_wp2
    go_ret
    exact ⟨rfl, rfl⟩
theorem hasPlace_no {w : World} {g b r c : Nat} {i j : Int} (h : Gd w g b r c) (hi : i < 0 ∨ (r : Int) ≤ i ∨ j < 0 ∨ (c : Int) ≤ j) : Calls Try.prog 38 #[.pointer (some ⟨g, 0, none⟩), .int .i64 i, .int .i64 j] w (Still w (.bool false)) := by
  by_cases h1 : i < 0 ∨ (r : Int) ≤ i
  · have HR := hid (hasRow_no h h1)
    clear h hi h1
    go_enter Try.func38, Try.ntmps38
    go_wp2_with fail
    refine HR.out.mono ?_
    rintro e w' ⟨rfl, rfl⟩
    go_wp2
    go_ret
    exact ⟨rfl, rfl⟩
  · obtain ⟨i', rfl⟩ := Int.eq_ofNat_of_zero_le (show 0 ≤ i by omega)
    have HR := hid (hasRow_yes h (i := i') (by omega))
    have x1 := h.1.at (i := 1) rfl
    clear h
    by_cases h2 : (0 : Int) ≤ j
    · have h3 : decide (j < (c : Int)) = false := decide_eq_false (by omega)
      clear hi h1
      go_enter Try.func38, Try.ntmps38
      go_wp2_with fail
      refine HR.out.mono ?_
      rintro e w' ⟨rfl, rfl⟩
      go_wp2
      go_ret
      exact ⟨rfl, rfl⟩
    · clear hi h1
      go_enter Try.func38, Try.ntmps38
      go_wp2_with fail
      refine HR.out.mono ?_
      rintro e w' ⟨rfl, rfl⟩
      go_wp2
      go_ret
      exact ⟨rfl, rfl⟩
/-- All but the blocks g and b is as it was. -/
structure Gf (g b : Nat) (w w' : World) : Prop where
  os : w'.os = w.os
  tape : w'.tape = w.tape
  output : w'.output = w.output
  size : w.heap.size ≤ w'.heap.size
  block : ∀ y, y < w.heap.size → y ≠ g → y ≠ b → w'.heap[y]? = w.heap[y]?
theorem Gf.of {g b : Nat} {w w' : World} (h : w.grownBy w' (some b)) : Gf g b w w' := ⟨h.os, h.tape, h.output, h.size, fun y hy _ hb => h.block y hy (fun e => hb (by simpa using e))⟩
theorem Gf.below {g b : Nat} {w w' : World} (h : Below w.heap.size w w') : Gf g b w w' := ⟨h.os, h.tape, h.output, h.size, fun y hy _ _ => h.block y hy⟩
/-- A call on a grid: its answer, the grid behind it. -/
def Doneg (w : World) (g b r c : Nat) (F : Nat → Nat → Int) (k : Nat) (e : Ending) (w' : World) : Prop := ∃ b', e = .returned (.int .i64 0) ∧ Gq w' g b' r c F k ∧ (b' = b ∨ w.heap.size ≤ b') ∧ Gf g b w w'
theorem clear_no {w : World} {g b r c : Nat} {i : Int} (h : Gd w g b r c) (hi : i < 0 ∨ (r : Int) ≤ i) : Calls Try.prog 13 #[.pointer (some ⟨g, 0, none⟩), .int .i64 i] w (Still w (.int .i64 3)) := by
  have HC := hid (hasRow_no h hi)
  clear h hi
  go_enter Try.func13, Try.ntmps13
  go_wp2_with fail
  refine HC.out.mono ?_
  rintro e w' ⟨rfl, rfl⟩
  go_wp2
  go_ret
  exact ⟨rfl, rfl⟩
theorem clear_yes {w : World} {g b r c k i : Nat} {F : Nat → Nat → Int} (h : Gq w g b r c F k) (hi : i < r) : Calls Try.prog 13 #[.pointer (some ⟨g, 0, none⟩), .int .i64 (i : Int)] w (Doneg w g b r c (fun i' j => if i' = i then 0 else F i' j) k) := by
  obtain ⟨f, n, hg, hm, hf, hw⟩ := h
  have HC := hid (hasRow_yes hg hi)
  have x2 := hg.1.at (i := 2) rfl
  have HD := hid (drop_any (i := i) hm)
  have FIN : Hid (∀ w', DropD w b i f (.returned (.tuple #[])) w' → Doneg w g b r c (fun i' j => if i' = i then 0 else F i' j) k (.returned (.int .i64 0)) w') := by
    rintro w' ⟨m, -, p1, p2⟩
    refine ⟨b, rfl, ⟨_, m, hg.cl (hm.cl p2), p1, fun i' j => ?_, fun s v hs => ?_⟩, .inl rfl, .of p2⟩
    · by_cases e : i' = i
      · exact .inl ⟨by simp [e], by simp [e]⟩
      · simpa [e] using (hf.cl (hm.cl p2)) i' j
    · by_cases e : s.1 = i
      · simp [e] at hs
      · exact hw s v (by simpa [e] using hs)
  clear hg hm hf hw hi
  go_enter Try.func13, Try.ntmps13
  go_wp2_with fail
  refine HC.out.mono ?_
  rintro e w1 ⟨rfl, hw1⟩
  have hw2 := hw1.symm
  subst hw2
  clear hw1 HC
  go_wp2_with fail
  refine HD.out.mono ?_
  rintro e w2 ⟨m, rfl, p1, p2⟩
  have FF := hid (FIN.out w2 ⟨m, rfl, p1, p2⟩)
  clear p1 p2 HD FIN x2
  go_wp2
  go_ret
  exact FF.out
theorem swap_no1 {w : World} {g b r c : Nat} {i j : Int} (h : Gd w g b r c) (hi : i < 0 ∨ (r : Int) ≤ i) : Calls Try.prog 12 #[.pointer (some ⟨g, 0, none⟩), .int .i64 i, .int .i64 j] w (Still w (.int .i64 3)) := by
  have HC := hid (hasRow_no h hi)
  clear h hi
  go_enter Try.func12, Try.ntmps12
  go_wp2_with fail
  refine HC.out.mono ?_
  rintro e w' ⟨rfl, rfl⟩
  go_wp2
  go_ret
  exact ⟨rfl, rfl⟩
theorem swap_no2 {w : World} {g b r c i : Nat} {j : Int} (h : Gd w g b r c) (hi : i < r) (hj : j < 0 ∨ (r : Int) ≤ j) : Calls Try.prog 12 #[.pointer (some ⟨g, 0, none⟩), .int .i64 (i : Int), .int .i64 j] w (Still w (.int .i64 3)) := by
  have HC := hid (hasRow_yes h hi)
  have HD := hid (hasRow_no h hj)
  clear h hi hj
  go_enter Try.func12, Try.ntmps12
  go_wp2_with fail
  refine HC.out.mono ?_
  rintro e w1 ⟨rfl, hw1⟩
  have hw2 := hw1.symm
  subst hw2
  clear hw1
  go_wp2_with fail
  refine HD.out.mono ?_
  rintro e w' ⟨rfl, rfl⟩
  go_wp2
  go_ret
  exact ⟨rfl, rfl⟩
theorem swap_self {w : World} {g b r c k i : Nat} {F : Nat → Nat → Int} (h : Gq w g b r c F k) (hi : i < r) : Calls Try.prog 12 #[.pointer (some ⟨g, 0, none⟩), .int .i64 (i : Int), .int .i64 (i : Int)] w (Doneg w g b r c F k) := by
  have HC := hid (hasRow_yes h.gd hi)
  have FIN : Hid (Doneg w g b r c F k (.returned (.int .i64 0)) w) := ⟨b, rfl, h, .inl rfl, .below (Below.refl _ _)⟩
  have ht : ((i : Int) == (i : Int)) = true := by simp
  clear h hi
  go_enter Try.func12, Try.ntmps12
  go_wp2_with fail
  refine HC.out.mono ?_
  rintro e w1 ⟨rfl, hw1⟩
  have hw2 := hw1.symm
  subst hw2
  clear hw1
  go_wp2_with fail
  refine HC.out.mono ?_
  rintro e w1 ⟨rfl, hw1⟩
  have hw2 := hw1.symm
  subst hw2
  clear hw1
  go_wp2
  go_ret
  exact FIN.out
theorem rowf_allZ {f : Nat × Nat → Option Value} {left : Nat × Nat → Bool} {q : Nat} (h : AllZ f) : AllZ (rowf f left q) := fun s v hs => by
  unfold rowf at hs
  split at hs
  · exact h s v hs
  · cases hs
theorem rowf_row {f : Nat × Nat → Option Value} {left : Nat × Nat → Bool} {q : Nat} : ∀ s v, rowf f left q s = some v → s.1 = q := fun s v hs => by
  unfold rowf at hs
  split at hs
  · rename_i e; exact e.1
  · cases hs
/-- Rows i and j change places. -/
def swF {α : Type} (F : Nat → Nat → α) (i j : Nat) : Nat → Nat → α := fun i' j' => if i' = i then F j j' else if i' = j then F i j' else F i' j'
theorem swap_end {w w' : World} {g b r c k i j n m : Nat} {F : Nat → Nat → Int} {f : Nat × Nat → Option Value} (hg : Gd w g b r c) (hm : Mp spv spok w b f n) (hf : Nm w f F k) (hw : Wi f r c) (hi : i < r) (hj : j < r) (p2 : w.grownBy w' (some b))
    (p1 : Mp spv spok w' b (fun s => if s.1 = j then f (i, s.2) else if s.1 = i then f (j, s.2) else f s) m) (hne : i ≠ j) : Doneg w g b r c (swF F i j) k (.returned (.int .i64 0)) w' := by
  have hcl := hm.cl p2
  refine ⟨b, rfl, ⟨_, m, hg.cl hcl, p1, fun i' j' => ?_, fun s v hs => ?_⟩, .inl rfl, .of p2⟩
  · unfold swF
    by_cases e1 : i' = j
    · subst e1
      have : ¬ i' = i := fun q => hne q.symm
      simpa [this] using (hf.cl hcl) i j'
    · by_cases e2 : i' = i
      · subst e2
        simpa [e1] using (hf.cl hcl) j j'
      · simpa [e1, e2] using (hf.cl hcl) i' j'
  · dsimp only at hs
    by_cases e1 : s.1 = j
    · rw [if_pos e1] at hs
      exact ⟨by omega, (hw _ _ hs).2⟩
    · by_cases e2 : s.1 = i
      · rw [if_neg e1, if_pos e2] at hs
        exact ⟨by omega, (hw _ _ hs).2⟩
      · rw [if_neg e1, if_neg e2] at hs
        exact hw s v hs
set_option maxHeartbeats 3200000 in
set_option maxRecDepth 100000 in
theorem swap_yes {w : World} {g b r c k i j : Nat} {F : Nat → Nat → Int} (h : Gq w g b r c F k) (hi : i < r) (hj : j < r) (hne : i ≠ j) : Calls Try.prog 12 #[.pointer (some ⟨g, 0, none⟩), .int .i64 (i : Int), .int .i64 (j : Int)] w (Doneg w g b r c (swF F i j) k) := by
  obtain ⟨f, n, hg, hm, hf, hw⟩ := h
  have HC := hid (hasRow_yes hg hi)
  have HD := hid (hasRow_yes hg hj)
  have ht : ((i : Int) == (j : Int)) = false := by simp; omega
  have x2 := hg.1.at (i := 2) rfl
  have HG := hid hg
  have HM := hid hm
  have HF := hid hf
  have HW := hid hw
  have HIJ := hid (And.intro hi (And.intro hj hne))
  clear hg hm hf hw hi hj hne
  go_enter Try.func12, Try.ntmps12
  go_wp2_with fail
  refine HC.out.mono ?_
  rintro e w1 ⟨rfl, hw1⟩
  have hw2 := hw1.symm
  subst hw2
  clear hw1 HC
  go_wp2_with fail
  refine HD.out.mono ?_
  rintro e w1 ⟨rfl, hw1⟩
  have hw2 := hw1.symm
  subst hw2
  clear hw1 HD
  go_wp2_with fail
  have KB : Hid (∀ w', Below w.heap.size w w' → w'.cell? ⟨g, 2, none⟩ = some (.map (some b))) := fun w' h => cnow h x2
  refine wp_region_tail (fun w' => w'.cell? ⟨g, 2, none⟩ = some (.map (some b))) 12 (by kernel_rfl) ?_
  obtain ⟨D1, hD⟩ : ∃ D1, w.drew = D1 := ⟨_, rfl⟩
  have GB : Hid (Below w.heap.size w D1) := by unfold Hid; rw [← hD]; exact (Below.refl _ _).drew
  rw [hD]
  clear hD
  refine wpAnyT_take (i := 0) (oi := { dst := some 22, op := Op.move (Operand.tmp 0), type := 27, pos := "rows.go:41", after := #[], guard := none }) (v := (.pointer (some ⟨g, 0, none⟩))) rfl (by kernel_rfl) (fun _ _ _ h => h) (Or.inl ⟨by rfl, ?_⟩) (KB.out _ GB.out) ?_
  · intro w hSw
    (try dsimp only at hSw)
    go_simp
  simp only [Act.put, List.setIfInBounds_toArray, List.set_cons_zero, List.set_cons_succ]
  refine wpAnyT_take (i := 1) (oi := { dst := some 23, op := Op.nilCheck (Operand.tmp 22), type := 0, pos := "rows.go:41", after := #[{ on := 0, ground := Ground.data }], guard := none }) (v := (.pointer (some ⟨g, 0, none⟩))) rfl (by kernel_rfl) (fun _ _ _ h => h) (Or.inl ⟨by rfl, ?_⟩) (KB.out _ GB.out) ?_
  · intro w hSw
    (try dsimp only at hSw)
    go_simp
  simp only [Act.put, List.setIfInBounds_toArray, List.set_cons_zero, List.set_cons_succ]
  refine wpAnyT_take (i := 2) (oi := { dst := some 24, op := Op.fieldAddr 68 (Operand.tmp 23) 2, type := 0, pos := "rows.go:41", after := #[{ on := 1, ground := Ground.data }], guard := none }) (v := (.pointer (some ⟨g, 2, none⟩))) rfl (by kernel_rfl) (fun _ _ _ h => h) (Or.inl ⟨by rfl, ?_⟩) (KB.out _ GB.out) ?_
  · intro w hSw
    (try dsimp only at hSw)
    go_simp
  simp only [Act.put, List.setIfInBounds_toArray, List.set_cons_zero, List.set_cons_succ]
  refine wpAnyT_take (i := 3) (oi := { dst := some 25, op := Op.load 66 (Operand.tmp 24), type := 66, pos := "rows.go:41", after := #[{ on := 2, ground := Ground.data }], guard := none }) (v := (.map (some b))) rfl (by kernel_rfl) (fun _ _ _ h => h) (Or.inl ⟨by rfl, ?_⟩) (KB.out _ GB.out) ?_
  · intro w hSw
    (try dsimp only at hSw)
    go_simp
  simp only [Act.put, List.setIfInBounds_toArray, List.set_cons_zero, List.set_cons_succ]
  refine wpAnyT_take (i := 4) (oi := { dst := some 26, op := Op.move (Operand.tmp 1), type := 3, pos := "rows.go:41", after := #[], guard := none }) (v := (.int .i64 (i : Int))) rfl (by kernel_rfl) (fun _ _ _ h => h) (Or.inl ⟨by rfl, ?_⟩) (KB.out _ GB.out) ?_
  · intro w hSw
    (try dsimp only at hSw)
    go_simp
  simp only [Act.put, List.setIfInBounds_toArray, List.set_cons_zero, List.set_cons_succ]
  refine wpAnyT_take (i := 6) (oi := { dst := some 28, op := Op.move (Operand.tmp 0), type := 27, pos := "rows.go:41", after := #[], guard := none }) (v := (.pointer (some ⟨g, 0, none⟩))) rfl (by kernel_rfl) (fun _ _ _ h => h) (Or.inl ⟨by rfl, ?_⟩) (KB.out _ GB.out) ?_
  · intro w hSw
    (try dsimp only at hSw)
    go_simp
  simp only [Act.put, List.setIfInBounds_toArray, List.set_cons_zero, List.set_cons_succ]
  refine wpAnyT_take (i := 7) (oi := { dst := some 29, op := Op.nilCheck (Operand.tmp 28), type := 0, pos := "rows.go:41", after := #[{ on := 6, ground := Ground.data }], guard := none }) (v := (.pointer (some ⟨g, 0, none⟩))) rfl (by kernel_rfl) (fun _ _ _ h => h) (Or.inl ⟨by rfl, ?_⟩) (KB.out _ GB.out) ?_
  · intro w hSw
    (try dsimp only at hSw)
    go_simp
  simp only [Act.put, List.setIfInBounds_toArray, List.set_cons_zero, List.set_cons_succ]
  refine wpAnyT_take (i := 8) (oi := { dst := some 30, op := Op.fieldAddr 68 (Operand.tmp 29) 2, type := 0, pos := "rows.go:41", after := #[{ on := 7, ground := Ground.data }], guard := none }) (v := (.pointer (some ⟨g, 2, none⟩))) rfl (by kernel_rfl) (fun _ _ _ h => h) (Or.inl ⟨by rfl, ?_⟩) (KB.out _ GB.out) ?_
  · intro w hSw
    (try dsimp only at hSw)
    go_simp
  simp only [Act.put, List.setIfInBounds_toArray, List.set_cons_zero, List.set_cons_succ]
  refine wpAnyT_take (i := 9) (oi := { dst := some 31, op := Op.load 66 (Operand.tmp 30), type := 66, pos := "rows.go:41", after := #[{ on := 8, ground := Ground.data }], guard := none }) (v := (.map (some b))) rfl (by kernel_rfl) (fun _ _ _ h => h) (Or.inl ⟨by rfl, ?_⟩) (KB.out _ GB.out) ?_
  · intro w hSw
    (try dsimp only at hSw)
    go_simp
  simp only [Act.put, List.setIfInBounds_toArray, List.set_cons_zero, List.set_cons_succ]
  refine wpAnyT_take (i := 10) (oi := { dst := some 32, op := Op.move (Operand.tmp 2), type := 3, pos := "rows.go:41", after := #[], guard := none }) (v := (.int .i64 (j : Int))) rfl (by kernel_rfl) (fun _ _ _ h => h) (Or.inl ⟨by rfl, ?_⟩) (KB.out _ GB.out) ?_
  · intro w hSw
    (try dsimp only at hSw)
    go_simp
  simp only [Act.put, List.setIfInBounds_toArray, List.set_cons_zero, List.set_cons_succ]
  refine wpAnyT_one (i := 5) (o := { dst := some 27, op := Op.call { callee := Callee.value (Operand.func 43), args := #[Operand.tmp 25, Operand.tmp 26], argTypes := #[66, 3] }, type := 66, pos := "rows.go:41", after := #[{ on := 3, ground := Ground.data }, { on := 4, ground := Ground.data }], guard := none }) (by kernel_rfl) rfl (fun K hK => ?_)
  go_simp
  go_at_call 43
  refine (row_any (i := i) (HM.out.now GB.out) HF.out.allZ HW.out HG.out.2.1 HG.out.2.2).mono ?_
  rintro e w2 ⟨m2, rfl, hr2, b⟩
  have R2 := hid hr2
  have HB2 : Hid (w.heap.size ≤ D1.heap.size) := (show Below _ _ _ from GB.out).size
  obtain ⟨o2, ho2⟩ : ∃ o, D1.heap.size = o := ⟨_, rfl⟩
  rw [ho2] at R2 HB2 ⊢
  replace GB := hid (below_step GB.out b)
  clear hr2 b ho2
  refine hK.out _ _ (fun _ => KB.out _ GB.out) ?_
  clear hK
  refine wpAnyT_one (i := 11) (o := { dst := some 33, op := Op.call { callee := Callee.value (Operand.func 43), args := #[Operand.tmp 31, Operand.tmp 32], argTypes := #[66, 3] }, type := 66, pos := "rows.go:41", after := #[{ on := 9, ground := Ground.data }, { on := 10, ground := Ground.data }, { on := 5, ground := Ground.chain }], guard := none }) (by kernel_rfl) rfl (fun K hK => ?_)
  go_simp
  go_at_call 43
  refine (row_any (i := j) (HM.out.now GB.out) HF.out.allZ HW.out HG.out.2.1 HG.out.2.2).mono ?_
  rintro e w3 ⟨m3, rfl, hr3, b⟩
  have R3 := hid hr3
  have HB3 : Hid (w.heap.size ≤ w2.heap.size) := (show Below _ _ _ from GB.out).size
  replace R2 := hid (R2.out.now b)
  obtain ⟨o3, ho3⟩ : ∃ o, w2.heap.size = o := ⟨_, rfl⟩
  rw [ho3] at R3 HB3 ⊢
  replace GB := hid (below_step GB.out b)
  clear hr3 b ho3
  refine hK.out _ _ (fun _ => KB.out _ GB.out) ?_
  clear hK
  refine wpAnyT_one (i := 12) (o := { dst := some 7, op := Op.assign (Operand.tmp 27), type := 66, pos := "rows.go:41", after := #[{ on := 5, ground := Ground.data }, { on := 11, ground := Ground.chain }, { on := 0, ground := Ground.phase }, { on := 1, ground := Ground.phase }, { on := 2, ground := Ground.phase }, { on := 3, ground := Ground.phase }, { on := 4, ground := Ground.phase }, { on := 5, ground := Ground.phase }, { on := 6, ground := Ground.textOnly Departure.lateStores }, { on := 7, ground := Ground.textOnly Departure.lateStores }, { on := 8, ground := Ground.textOnly Departure.lateStores }, { on := 9, ground := Ground.textOnly Departure.lateStores }, { on := 10, ground := Ground.textOnly Departure.lateStores }, { on := 11, ground := Ground.textOnly Departure.lateStoresUnsure }], guard := none }) (by kernel_rfl) rfl (fun K hK => ?_)
  go_simp
  refine hK.out _ _ (fun h => absurd h (by decide)) ?_
  clear hK
  try simp only [Act.put]
  refine wpAnyT_one (i := 13) (o := { dst := some 8, op := Op.assign (Operand.tmp 33), type := 66, pos := "rows.go:41", after := #[{ on := 11, ground := Ground.data }, { on := 12, ground := Ground.chain }, { on := 0, ground := Ground.phase }, { on := 1, ground := Ground.phase }, { on := 2, ground := Ground.phase }, { on := 3, ground := Ground.phase }, { on := 4, ground := Ground.phase }, { on := 5, ground := Ground.phase }, { on := 6, ground := Ground.phase }, { on := 7, ground := Ground.phase }, { on := 8, ground := Ground.phase }, { on := 9, ground := Ground.phase }, { on := 10, ground := Ground.phase }, { on := 11, ground := Ground.phase }, { on := 12, ground := Ground.phase }], guard := none }) (by kernel_rfl) rfl (fun K hK => ?_)
  go_simp
  refine hK.out _ _ (fun h => absurd h (by decide)) ?_
  clear hK
  try simp only [Act.put]
  refine wpAnyT_done (by kernel_rfl) ?_ _
  have hwb := HM.out.lt
  have HLB := hid hwb
  have G3 := hid GB.out
  have HM3 := hid (HM.out.now GB.out)
  have HG3 := hid (HG.out.now GB.out)
  have HF3 := hid (HF.out.now GB.out)
  clear x2 GB KB hwb
  have x2 := HG3.out.1.at (i := 2) rfl
  have ALR : Hid (∀ q, AllZ (rowf f (fun _ => false) q) ∧ Wi (rowf f (fun _ => false) q) r c ∧ ∀ s v, rowf f (fun _ => false) q s = some v → s.1 = q) := fun q => ⟨rowf_allZ HF.out.allZ, rowf_wi HW.out, rowf_row⟩
  go_wp2_with fail
  refine (drop_any (i := i) HM3.out).mono ?_
  rintro e w4 ⟨m4, rfl, p4, q4⟩
  have HM4 := hid p4
  have R24 := hid (R2.out.kept q4 (fun e => by have := HLB.out; have := HB2.out; simp at e; omega))
  have R34 := hid (R3.out.kept q4 (fun e => by have := HLB.out; have := HB3.out; simp at e; omega))
  have HG4 := hid (HG3.out.cl (HM3.out.cl q4))
  have G4 := hid (grown_low G3.out q4)
  clear p4 q4 x2
  have x2 := HG4.out.1.at (i := 2) rfl
  go_wp2_with fail
  refine (drop_any (i := j) HM4.out).mono ?_
  rintro e w5 ⟨m5, rfl, p5, q5⟩
  have HM5 := hid p5
  have R25 := hid (R24.out.kept q5 (fun e => by have := HLB.out; have := HB2.out; simp at e; omega))
  have R35 := hid (R34.out.kept q5 (fun e => by have := HLB.out; have := HB3.out; simp at e; omega))
  have HG5 := hid (HG4.out.cl (HM4.out.cl q5))
  have G5 := hid (gb_b G4.out q5)
  clear p5 q5 x2
  have x2 := HG5.out.1.at (i := 2) rfl
  have WI5 : Hid (Wi (fun s => if s.1 = j then Option.none else if s.1 = i then Option.none else f s) r c) := fun s v hs => by
    dsimp only at hs
    by_cases e1 : s.1 = j
    · rw [if_pos e1] at hs; cases hs
    · by_cases e2 : s.1 = i
      · rw [if_neg e1, if_pos e2] at hs; cases hs
      · rw [if_neg e1, if_neg e2] at hs; exact HW.out s v hs
  go_wp2_with fail
  refine (lay_any (i := i) (p := j) HM5.out WI5.out R35.out (ALR.out j).2.1 (ALR.out j).1 (ALR.out j).2.2 (fun j' => by by_cases e : i = j <;> simp [e]) (by have := HLB.out; have := HB3.out; omega) HIJ.out.1 HG.out.2.1 HG.out.2.2).mono ?_
  rintro e w6 ⟨m6, rfl, p6, q6⟩
  have HM6 := hid p6
  have R26 := hid (R25.out.kept q6 (fun e => by have := HLB.out; have := HB2.out; simp at e; omega))
  have HG6 := hid (HG5.out.cl (HM5.out.cl q6))
  have G6 := hid (gb_b G5.out q6)
  clear p6 q6 x2
  have x2 := HG6.out.1.at (i := 2) rfl
  have WI6 : Hid (Wi (fun s => if s.1 = i then rowf f (fun _ => false) j (j, s.2) else if s.1 = j then Option.none else if s.1 = i then Option.none else f s) r c) := fun s v hs => by
    dsimp only at hs
    by_cases e1 : s.1 = i
    · rw [if_pos e1] at hs
      exact ⟨by have := HIJ.out.1; omega, ((ALR.out j).2.1 _ _ hs).2⟩
    · rw [if_neg e1] at hs
      exact WI5.out s v hs
  go_wp2_with fail
  refine (lay_any (i := j) (p := i) HM6.out WI6.out R26.out (ALR.out i).2.1 (ALR.out i).1 (ALR.out i).2.2 (fun j' => by have := HIJ.out.2.2; by_cases e : j = i <;> simp [e] <;> omega) (by have := HLB.out; have := HB2.out; omega) HIJ.out.2.1 HG.out.2.1 HG.out.2.2).mono ?_
  rintro e w7 ⟨m7, rfl, p7, q7⟩
  have FIN : Hid (Doneg w g b r c (swF F i j) k (.returned (.int .i64 0)) w7) := by
    refine swap_end HG.out HM.out HF.out HW.out HIJ.out.1 HIJ.out.2.1 (gb_b G6.out q7) (p7.ext (fun s => ?_)) HIJ.out.2.2
    obtain ⟨s1, s2⟩ := s
    by_cases e1 : s1 = j
    · simp [e1, rowf]
    · by_cases e2 : s1 = i
      · subst e2; simp [e1, rowf]
      · simp [e1, e2]
  clear p7 q7 x2 HM6 HM5 HM4 HM3 R26 R25 R24 R2 R35 R34 R3
  go_wp2
  go_ret
  exact FIN.out
end Go.Proofs.Ytachdicdfhfoaaa
