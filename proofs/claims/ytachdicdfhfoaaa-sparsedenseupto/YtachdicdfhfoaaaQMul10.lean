/-
  Mul10: Mul.
-/
import Derived.Test.YtachdicdfhfoaaaQByR10ToMulP10
namespace Go.Proofs.Ytachdicdfhfoaaa
open Go.RowKit Go.ChangeMaps Go.MapKept
set_option linter.unusedVariables false

/-- What stays throughout the product: the other grid's rows (block B1), its integers, those of the first. -/
def MuK (w : World) (B1 lo1 hi1 m : Nat) (fR1 : Nat → Option Value) (bk1 : Nat → Nat) (nR1 : Nat) (fA fB : Nat × Nat → Option Value) (A B : Nat → Nat → Int) (ka kb : Nat) (wx : World) : Prop :=
  Mp inv inok wx B1 fR1 nR1 ∧ Rz0 wx fR1 bk1 lo1 hi1 m fB ∧ Nm wx fA A ka ∧ Nm wx fB B kb ∧ Below w.heap.size w wx
theorem MuK.now {w wx w' : World} {B1 lo1 hi1 m ka kb nR1 : Nat} {fR1 : Nat → Option Value} {bk1 : Nat → Nat} {fA fB : Nat × Nat → Option Value} {A B : Nat → Nat → Int} (h : MuK w B1 lo1 hi1 m fR1 bk1 nR1 fA fB A B ka kb wx) (hb : Below wx.heap.size wx w') : MuK w B1 lo1 hi1 m fR1 bk1 nR1 fA fB A B ka kb w' :=
  ⟨h.1.now hb, h.2.1.now hb, h.2.2.1.now hb, h.2.2.2.1.now hb, below_step h.2.2.2.2 hb⟩
theorem MuK.kept {w wx w' : World} {B1 lo1 hi1 m ka kb nR1 x : Nat} {fR1 : Nat → Option Value} {bk1 : Nat → Nat} {fA fB : Nat × Nat → Option Value} {A B : Nat → Nat → Int} (h : MuK w B1 lo1 hi1 m fR1 bk1 nR1 fA fB A B ka kb wx) (hg : wx.grownBy w' (some x)) (hc : Cl wx w') (h1 : x ≠ B1) (h2 : x < lo1 ∨ hi1 ≤ x) (h3 : w.heap.size ≤ x) : MuK w B1 lo1 hi1 m fR1 bk1 nR1 fA fB A B ka kb w' :=
  ⟨h.1.kept hg (fun e => h1 (by simpa using e.symm)), h.2.1.kept hg h2, h.2.2.1.cl hc, h.2.2.2.1.cl hc, below_grown h.2.2.2.2 hg h3⟩
/-- The blocks of the product, in their order. -/
structure MuO (w0 g' b' B1 lo1 hi1 B2 lo2 hi2 it : Nat) : Prop where
  a : w0 ≤ g'
  b : w0 ≤ b'
  c : b' < B1
  d : B1 < lo1
  e : lo1 ≤ hi1
  f : hi1 ≤ B2
  g : B2 < lo2
  h : lo2 ≤ hi2
  i : hi2 ≤ it
theorem MuO.all {w0 g' b' B1 lo1 hi1 B2 lo2 hi2 it : Nat} (h : MuO w0 g' b' B1 lo1 hi1 B2 lo2 hi2 it) : w0 ≤ b' ∧ b' < B1 ∧ B1 < lo1 ∧ lo1 ≤ hi1 ∧ hi1 ≤ B2 ∧ B2 < lo2 ∧ lo2 ≤ hi2 ∧ hi2 ≤ it := ⟨h.b, h.c, h.d, h.e, h.f, h.g, h.h, h.i⟩
/-- addTimes with a row out of the map of rows, or none. -/
theorem addTimes_row {w : World} {b r c i t m k kk kr lo hi : Nat} {F B : Nat → Nat → Int} {f : Nat × Nat → Option Value} {fR : Nat → Option Value} {bk : Nat → Nat} {vk : Value} {x : Int} (h : Mq w b r c F k) (hz : Zi w vk x kk) (hR : Rz0 w fR bk lo hi m f) (hf : Nm w f B kr) (hw : Wi f m c) (hb : b < lo)
    (hi' : i < r) (hr : r ≤ 1048576) (hc : c ≤ 1048576) (hK : ∀ j, ((x * B t j + F i j).natAbs : Int) < pw k) (hkk : kk + kr < 35184372088832) (hk : k < 35184372088832) :
    Calls Try.prog 42 #[.map (some b), .int .i64 (i : Int), vk, (fR t).getD (.map none)] w (AddedT w b r c (fun i' j => if i' = i then F i j + x * B t j else F i' j) k) := by
  cases e : fR t with
  | none =>
    refine (addTimes_none (i := i) h hz).mono ?_
    rintro e' w' ⟨rfl, h2, h3⟩
    refine ⟨rfl, h2.ext (fun i' j => ?_), h3⟩
    have : B t j = 0 := by
      rcases hf t j with ⟨_, q⟩ | ⟨v, q, _⟩
      · exact q
      · rw [hR.2 t e j] at q; cases q
    by_cases q : i' = i
    · subst q; simp [this]
    · simp [q]
  | some v =>
    obtain ⟨h1, rfl, h3, h4, n, h5⟩ := hR.1 t v e
    refine (addTimes_some (p := t) (B := rwF B t) h hz h5 (hf.row t) (fun s v hs => ?_) (by omega) hi' hr hc (fun j => by simpa [rwF] using hK j) hkk hk).mono ?_
    · have : s.1 = t := by
        unfold rowf at hs
        split at hs
        · rename_i q; exact q.1
        · cases hs
      exact ⟨this, (rowf_wi hw s v hs).2⟩
    · rintro e' w' ⟨rfl, h6, h7⟩
      exact ⟨rfl, h6.ext (fun i' j => by simp [rwF]), h7⟩
/-- Between the rows. -/
def HypM1 (w : World) (g' b' B1 lo1 hi1 B2 lo2 hi2 it r m c ka kb : Nat) (fR1 fR2 : Nat → Option Value) (bk1 bk2 : Nat → Nat) (nR1 nR2 : Nat) (fA fB : Nat × Nat → Option Value) (A B : Nat → Nat → Int) (gk : Nat) (wx : World) : Prop :=
  ∃ leftR, Rg inv inok wx B2 it fR2 nR2 leftR gk ∧ Rz0 wx fR2 bk2 lo2 hi2 r fA ∧ MuK w B1 lo1 hi1 m fR1 bk1 nR1 fA fB A B ka kb wx ∧ Gq wx g' b' r c (plF m leftR A B) (ka + kb + 1)
/-- Within a row. -/
def HypM2 (w : World) (g' b' B1 lo1 hi1 B2 lo2 hi2 it it2 r m c ka kb i nr : Nat) (fR1 fR2 : Nat → Option Value) (bk1 bk2 : Nat → Nat) (nR1 nR2 cnt : Nat) (leftR : Nat → Bool) (fA fB : Nat × Nat → Option Value) (A B : Nat → Nat → Int) (gk : Nat) (wx : World) : Prop :=
  ∃ left, Rg spv spok wx (bk2 i) it2 (rowf fA (fun _ => false) i) nr left gk ∧ Rg inv inok wx B2 it fR2 nR2 (fun x => leftR x && !decide (x = i)) cnt ∧ Rz0 wx fR2 bk2 lo2 hi2 r fA ∧ MuK w B1 lo1 hi1 m fR1 bk1 nR1 fA fB A B ka kb wx ∧ Gq wx g' b' r c (pmF m leftR i left A B) (ka + kb + 1)
set_option maxHeartbeats 6400000 in
set_option maxRecDepth 100000 in
theorem mulG_no {w : World} {g bg h bh r m m' c ka kb : Nat} {A B : Nat → Nat → Int} (hA : Gq w g bg r m A ka) (hB : Gq w h bh m' c B kb) (hne : ((m : Int) != (m' : Int)) = true) : Calls Try.prog 17 #[.pointer (some ⟨g, 0, none⟩), .pointer (some ⟨h, 0, none⟩)] w (Says w (.tuple #[.pointer none, .int .i64 2])) := by
  obtain ⟨fA, nA, ga, ma, na, wa⟩ := hA
  obtain ⟨fB, nB, gb, mb, nb, wb⟩ := hB
  have x0 := ga.1.at (i := 0) rfl
  have x1 := ga.1.at (i := 1) rfl
  have x2 := ga.1.at (i := 2) rfl
  have y0 := gb.1.at (i := 0) rfl
  have y1 := gb.1.at (i := 1) rfl
  have y2 := gb.1.at (i := 2) rfl
  have GA := hid ga
  have MA := hid ma
  have NA := hid na
  have WA := hid wa
  have GBB := hid gb
  have MB := hid mb
  have NB := hid nb
  have WBB := hid wb
  clear ga ma na wa gb mb nb wb
  go_enter Try.func17, Try.ntmps17
  go_wp2_with fail
  have KB : Hid (∀ w', Below w.heap.size w w' → w'.cell? ⟨g, 1, none⟩ = some (.int .i64 (m : Int)) ∧ w'.cell? ⟨h, 0, none⟩ = some (.int .i64 (m' : Int))) := fun w' h => ⟨cnow h x1, cnow h y0⟩
  refine wp_region_tail (fun w' => w'.cell? ⟨g, 1, none⟩ = some (.int .i64 (m : Int)) ∧ w'.cell? ⟨h, 0, none⟩ = some (.int .i64 (m' : Int))) 8 (by kernel_rfl) ?_
  obtain ⟨D1, hD⟩ : ∃ D1, w.drew = D1 := ⟨_, rfl⟩
  have GB : Hid (Below w.heap.size w D1) := by unfold Hid; rw [← hD]; exact (Below.refl _ _).drew
  rw [hD]
  clear hD
  refine wpAnyT_take (i := 0) (oi := { dst := some 18, op := Op.move (Operand.tmp 0), type := 27, pos := "whole.go:13", after := #[], guard := none }) (v := (.pointer (some ⟨g, 0, none⟩))) rfl (by kernel_rfl) (fun _ _ _ h => h) (Or.inl ⟨by rfl, ?_⟩) (KB.out _ GB.out) ?_
  · intro w hSw
    (try dsimp only at hSw)
    go_simp
  simp only [Act.put, List.setIfInBounds_toArray, List.set_cons_zero, List.set_cons_succ]
  refine wpAnyT_take (i := 1) (oi := { dst := some 19, op := Op.nilCheck (Operand.tmp 18), type := 0, pos := "whole.go:13", after := #[{ on := 0, ground := Ground.data }], guard := none }) (v := (.pointer (some ⟨g, 0, none⟩))) rfl (by kernel_rfl) (fun _ _ _ h => h) (Or.inl ⟨by rfl, ?_⟩) (KB.out _ GB.out) ?_
  · intro w hSw
    (try dsimp only at hSw)
    go_simp
  simp only [Act.put, List.setIfInBounds_toArray, List.set_cons_zero, List.set_cons_succ]
  refine wpAnyT_take (i := 2) (oi := { dst := some 20, op := Op.fieldAddr 68 (Operand.tmp 19) 1, type := 0, pos := "whole.go:13", after := #[{ on := 1, ground := Ground.data }], guard := none }) (v := (.pointer (some ⟨g, 1, none⟩))) rfl (by kernel_rfl) (fun _ _ _ h => h) (Or.inl ⟨by rfl, ?_⟩) (KB.out _ GB.out) ?_
  · intro w hSw
    (try dsimp only at hSw)
    go_simp
  simp only [Act.put, List.setIfInBounds_toArray, List.set_cons_zero, List.set_cons_succ]
  refine wpAnyT_take (i := 3) (oi := { dst := some 21, op := Op.load 3 (Operand.tmp 20), type := 3, pos := "whole.go:13", after := #[{ on := 2, ground := Ground.data }], guard := none }) (v := (.int .i64 (m : Int))) rfl (by kernel_rfl) (fun _ _ _ h => h) (Or.inl ⟨by rfl, ?_⟩) (KB.out _ GB.out) ?_
  · intro w hSw
    (try dsimp only at hSw)
    go_simp
  simp only [Act.put, List.setIfInBounds_toArray, List.set_cons_zero, List.set_cons_succ]
  refine wpAnyT_take (i := 4) (oi := { dst := some 22, op := Op.move (Operand.tmp 1), type := 27, pos := "whole.go:13", after := #[], guard := none }) (v := (.pointer (some ⟨h, 0, none⟩))) rfl (by kernel_rfl) (fun _ _ _ h => h) (Or.inl ⟨by rfl, ?_⟩) (KB.out _ GB.out) ?_
  · intro w hSw
    (try dsimp only at hSw)
    go_simp
  simp only [Act.put, List.setIfInBounds_toArray, List.set_cons_zero, List.set_cons_succ]
  refine wpAnyT_take (i := 5) (oi := { dst := some 23, op := Op.nilCheck (Operand.tmp 22), type := 0, pos := "whole.go:13", after := #[{ on := 4, ground := Ground.data }], guard := none }) (v := (.pointer (some ⟨h, 0, none⟩))) rfl (by kernel_rfl) (fun _ _ _ h => h) (Or.inl ⟨by rfl, ?_⟩) (KB.out _ GB.out) ?_
  · intro w hSw
    (try dsimp only at hSw)
    go_simp
  simp only [Act.put, List.setIfInBounds_toArray, List.set_cons_zero, List.set_cons_succ]
  refine wpAnyT_take (i := 6) (oi := { dst := some 24, op := Op.fieldAddr 68 (Operand.tmp 23) 0, type := 0, pos := "whole.go:13", after := #[{ on := 5, ground := Ground.data }], guard := none }) (v := (.pointer (some ⟨h, 0, none⟩))) rfl (by kernel_rfl) (fun _ _ _ h => h) (Or.inl ⟨by rfl, ?_⟩) (KB.out _ GB.out) ?_
  · intro w hSw
    (try dsimp only at hSw)
    go_simp
  simp only [Act.put, List.setIfInBounds_toArray, List.set_cons_zero, List.set_cons_succ]
  refine wpAnyT_take (i := 7) (oi := { dst := some 25, op := Op.load 3 (Operand.tmp 24), type := 3, pos := "whole.go:13", after := #[{ on := 6, ground := Ground.data }], guard := none }) (v := (.int .i64 (m' : Int))) rfl (by kernel_rfl) (fun _ _ _ h => h) (Or.inl ⟨by rfl, ?_⟩) (KB.out _ GB.out) ?_
  · intro w hSw
    (try dsimp only at hSw)
    go_simp
  simp only [Act.put, List.setIfInBounds_toArray, List.set_cons_zero, List.set_cons_succ]
  refine wpAnyT_one (i := 8) (o := { dst := some 26, op := Op.binOp BinOp.neq 3 (Operand.tmp 21) (Operand.tmp 25) 3, type := 4, pos := "whole.go:13", after := #[{ on := 3, ground := Ground.data }, { on := 7, ground := Ground.data }], guard := none }) (by kernel_rfl) rfl (fun K hK => ?_)
  go_simp
  refine hK.out _ _ (fun h => absurd h (by decide)) ?_
  clear hK
  try simp only [Act.put]
  refine wpAnyT_done (by kernel_rfl) ?_ _
  have FIN : Hid (Says w (.tuple #[.pointer none, .int .i64 2]) (.returned (.tuple #[.pointer none, .int .i64 2])) D1) := ⟨rfl, GB.out⟩
  clear GB KB
  go_wp2
  go_ret2
  exact FIN.out
set_option maxHeartbeats 6400000 in
set_option maxRecDepth 100000 in
theorem mulG_yes {w : World} {g bg h bh r m c ka kb : Nat} {A B : Nat → Nat → Int} (hA : Gq w g bg r m A ka) (hB : Gq w h bh m c B kb) (hk : ka + kb + 1 < 35184372088832) (hr : r ≤ 64) (hm : m ≤ 64) (hc : c ≤ 64) : Calls Try.prog 17 #[.pointer (some ⟨g, 0, none⟩), .pointer (some ⟨h, 0, none⟩)] w (MadeG2 w r c (piS m (fun _ => false) A B) (ka + kb + 1)) := by
  obtain ⟨fA, nA, ga, ma, na, wa⟩ := hA
  obtain ⟨fB, nB, gb, mb, nb, wb⟩ := hB
  have x0 := ga.1.at (i := 0) rfl
  have x1 := ga.1.at (i := 1) rfl
  have x2 := ga.1.at (i := 2) rfl
  have y0 := gb.1.at (i := 0) rfl
  have y1 := gb.1.at (i := 1) rfl
  have y2 := gb.1.at (i := 2) rfl
  have GA := hid ga
  have MA := hid ma
  have NA := hid na
  have WA := hid wa
  have GBB := hid gb
  have MB := hid mb
  have NB := hid nb
  have WBB := hid wb
  clear ga ma na wa gb mb nb wb
  go_enter Try.func17, Try.ntmps17
  go_wp2_with fail
  have KB : Hid (∀ w', Below w.heap.size w w' → w'.cell? ⟨g, 1, none⟩ = some (.int .i64 (m : Int)) ∧ w'.cell? ⟨h, 0, none⟩ = some (.int .i64 (m : Int))) := fun w' h => ⟨cnow h x1, cnow h y0⟩
  refine wp_region_tail (fun w' => w'.cell? ⟨g, 1, none⟩ = some (.int .i64 (m : Int)) ∧ w'.cell? ⟨h, 0, none⟩ = some (.int .i64 (m : Int))) 8 (by kernel_rfl) ?_
  obtain ⟨D1, hD⟩ : ∃ D1, w.drew = D1 := ⟨_, rfl⟩
  have GB : Hid (Below w.heap.size w D1) := by unfold Hid; rw [← hD]; exact (Below.refl _ _).drew
  rw [hD]
  clear hD
  refine wpAnyT_take (i := 0) (oi := { dst := some 18, op := Op.move (Operand.tmp 0), type := 27, pos := "whole.go:13", after := #[], guard := none }) (v := (.pointer (some ⟨g, 0, none⟩))) rfl (by kernel_rfl) (fun _ _ _ h => h) (Or.inl ⟨by rfl, ?_⟩) (KB.out _ GB.out) ?_
  · intro w hSw
    (try dsimp only at hSw)
    go_simp
  simp only [Act.put, List.setIfInBounds_toArray, List.set_cons_zero, List.set_cons_succ]
  refine wpAnyT_take (i := 1) (oi := { dst := some 19, op := Op.nilCheck (Operand.tmp 18), type := 0, pos := "whole.go:13", after := #[{ on := 0, ground := Ground.data }], guard := none }) (v := (.pointer (some ⟨g, 0, none⟩))) rfl (by kernel_rfl) (fun _ _ _ h => h) (Or.inl ⟨by rfl, ?_⟩) (KB.out _ GB.out) ?_
  · intro w hSw
    (try dsimp only at hSw)
    go_simp
  simp only [Act.put, List.setIfInBounds_toArray, List.set_cons_zero, List.set_cons_succ]
  refine wpAnyT_take (i := 2) (oi := { dst := some 20, op := Op.fieldAddr 68 (Operand.tmp 19) 1, type := 0, pos := "whole.go:13", after := #[{ on := 1, ground := Ground.data }], guard := none }) (v := (.pointer (some ⟨g, 1, none⟩))) rfl (by kernel_rfl) (fun _ _ _ h => h) (Or.inl ⟨by rfl, ?_⟩) (KB.out _ GB.out) ?_
  · intro w hSw
    (try dsimp only at hSw)
    go_simp
  simp only [Act.put, List.setIfInBounds_toArray, List.set_cons_zero, List.set_cons_succ]
  refine wpAnyT_take (i := 3) (oi := { dst := some 21, op := Op.load 3 (Operand.tmp 20), type := 3, pos := "whole.go:13", after := #[{ on := 2, ground := Ground.data }], guard := none }) (v := (.int .i64 (m : Int))) rfl (by kernel_rfl) (fun _ _ _ h => h) (Or.inl ⟨by rfl, ?_⟩) (KB.out _ GB.out) ?_
  · intro w hSw
    (try dsimp only at hSw)
    go_simp
  simp only [Act.put, List.setIfInBounds_toArray, List.set_cons_zero, List.set_cons_succ]
  refine wpAnyT_take (i := 4) (oi := { dst := some 22, op := Op.move (Operand.tmp 1), type := 27, pos := "whole.go:13", after := #[], guard := none }) (v := (.pointer (some ⟨h, 0, none⟩))) rfl (by kernel_rfl) (fun _ _ _ h => h) (Or.inl ⟨by rfl, ?_⟩) (KB.out _ GB.out) ?_
  · intro w hSw
    (try dsimp only at hSw)
    go_simp
  simp only [Act.put, List.setIfInBounds_toArray, List.set_cons_zero, List.set_cons_succ]
  refine wpAnyT_take (i := 5) (oi := { dst := some 23, op := Op.nilCheck (Operand.tmp 22), type := 0, pos := "whole.go:13", after := #[{ on := 4, ground := Ground.data }], guard := none }) (v := (.pointer (some ⟨h, 0, none⟩))) rfl (by kernel_rfl) (fun _ _ _ h => h) (Or.inl ⟨by rfl, ?_⟩) (KB.out _ GB.out) ?_
  · intro w hSw
    (try dsimp only at hSw)
    go_simp
  simp only [Act.put, List.setIfInBounds_toArray, List.set_cons_zero, List.set_cons_succ]
  refine wpAnyT_take (i := 6) (oi := { dst := some 24, op := Op.fieldAddr 68 (Operand.tmp 23) 0, type := 0, pos := "whole.go:13", after := #[{ on := 5, ground := Ground.data }], guard := none }) (v := (.pointer (some ⟨h, 0, none⟩))) rfl (by kernel_rfl) (fun _ _ _ h => h) (Or.inl ⟨by rfl, ?_⟩) (KB.out _ GB.out) ?_
  · intro w hSw
    (try dsimp only at hSw)
    go_simp
  simp only [Act.put, List.setIfInBounds_toArray, List.set_cons_zero, List.set_cons_succ]
  refine wpAnyT_take (i := 7) (oi := { dst := some 25, op := Op.load 3 (Operand.tmp 24), type := 3, pos := "whole.go:13", after := #[{ on := 6, ground := Ground.data }], guard := none }) (v := (.int .i64 (m : Int))) rfl (by kernel_rfl) (fun _ _ _ h => h) (Or.inl ⟨by rfl, ?_⟩) (KB.out _ GB.out) ?_
  · intro w hSw
    (try dsimp only at hSw)
    go_simp
  simp only [Act.put, List.setIfInBounds_toArray, List.set_cons_zero, List.set_cons_succ]
  refine wpAnyT_one (i := 8) (o := { dst := some 26, op := Op.binOp BinOp.neq 3 (Operand.tmp 21) (Operand.tmp 25) 3, type := 4, pos := "whole.go:13", after := #[{ on := 3, ground := Ground.data }, { on := 7, ground := Ground.data }], guard := none }) (by kernel_rfl) rfl (fun K hK => ?_)
  go_simp
  refine hK.out _ _ (fun h => absurd h (by decide)) ?_
  clear hK
  try simp only [Act.put]
  refine wpAnyT_done (by kernel_rfl) ?_ _
  have G1 := hid GB.out
  have GA1 := hid (GA.out.now GB.out)
  have MA1 := hid (MA.out.now GB.out)
  have NA1 := hid (NA.out.now GB.out)
  have GH1 := hid (GBB.out.now GB.out)
  have MB1 := hid (MB.out.now GB.out)
  have NB1 := hid (NB.out.now GB.out)
  have HLT0 : Hid (bg < w.heap.size ∧ bh < w.heap.size) := ⟨MA.out.lt, MB.out.lt⟩
  clear x0 x1 x2 y0 y1 y2 GB KB GA MA NA GBB MB NB
  have x0 := GA1.out.1.at (i := 0) rfl
  have y1 := GH1.out.1.at (i := 1) rfl
  have y2 := GH1.out.1.at (i := 2) rfl
  go_wp2_with fail
  have KB : Hid (∀ w', Below D1.heap.size D1 w' → w'.cell? ⟨g, 0, none⟩ = some (.int .i64 (r : Int)) ∧ w'.cell? ⟨h, 1, none⟩ = some (.int .i64 (c : Int)) ∧ w'.cell? ⟨h, 2, none⟩ = some (.map (some bh))) := fun w' h => ⟨cnow h x0, cnow h y1, cnow h y2⟩
  refine wp_region_tail (fun w' => w'.cell? ⟨g, 0, none⟩ = some (.int .i64 (r : Int)) ∧ w'.cell? ⟨h, 1, none⟩ = some (.int .i64 (c : Int)) ∧ w'.cell? ⟨h, 2, none⟩ = some (.map (some bh))) 14 (by kernel_rfl) ?_
  obtain ⟨D11, hD⟩ : ∃ D11, D1.drew = D11 := ⟨_, rfl⟩
  have GB : Hid (Below D1.heap.size D1 D11) := by unfold Hid; rw [← hD]; exact (Below.refl _ _).drew
  rw [hD]
  clear hD
  have hD0 := (show Below _ _ _ from GB.out).size
  refine wpAnyT_take (i := 0) (oi := { dst := some 27, op := Op.move (Operand.tmp 0), type := 27, pos := "whole.go:16", after := #[], guard := none }) (v := (.pointer (some ⟨g, 0, none⟩))) rfl (by kernel_rfl) (fun _ _ _ h => h) (Or.inl ⟨by rfl, ?_⟩) (KB.out _ GB.out) ?_
  · intro w hSw
    (try dsimp only at hSw)
    go_simp
  simp only [Act.put, List.setIfInBounds_toArray, List.set_cons_zero, List.set_cons_succ]
  refine wpAnyT_take (i := 1) (oi := { dst := some 28, op := Op.nilCheck (Operand.tmp 27), type := 0, pos := "whole.go:16", after := #[{ on := 0, ground := Ground.data }], guard := none }) (v := (.pointer (some ⟨g, 0, none⟩))) rfl (by kernel_rfl) (fun _ _ _ h => h) (Or.inl ⟨by rfl, ?_⟩) (KB.out _ GB.out) ?_
  · intro w hSw
    (try dsimp only at hSw)
    go_simp
  simp only [Act.put, List.setIfInBounds_toArray, List.set_cons_zero, List.set_cons_succ]
  refine wpAnyT_take (i := 2) (oi := { dst := some 29, op := Op.fieldAddr 68 (Operand.tmp 28) 0, type := 0, pos := "whole.go:16", after := #[{ on := 1, ground := Ground.data }], guard := none }) (v := (.pointer (some ⟨g, 0, none⟩))) rfl (by kernel_rfl) (fun _ _ _ h => h) (Or.inl ⟨by rfl, ?_⟩) (KB.out _ GB.out) ?_
  · intro w hSw
    (try dsimp only at hSw)
    go_simp
  simp only [Act.put, List.setIfInBounds_toArray, List.set_cons_zero, List.set_cons_succ]
  refine wpAnyT_take (i := 3) (oi := { dst := some 30, op := Op.load 3 (Operand.tmp 29), type := 3, pos := "whole.go:16", after := #[{ on := 2, ground := Ground.data }], guard := none }) (v := (.int .i64 (r : Int))) rfl (by kernel_rfl) (fun _ _ _ h => h) (Or.inl ⟨by rfl, ?_⟩) (KB.out _ GB.out) ?_
  · intro w hSw
    (try dsimp only at hSw)
    go_simp
  simp only [Act.put, List.setIfInBounds_toArray, List.set_cons_zero, List.set_cons_succ]
  refine wpAnyT_take (i := 4) (oi := { dst := some 31, op := Op.move (Operand.tmp 1), type := 27, pos := "whole.go:16", after := #[], guard := none }) (v := (.pointer (some ⟨h, 0, none⟩))) rfl (by kernel_rfl) (fun _ _ _ h => h) (Or.inl ⟨by rfl, ?_⟩) (KB.out _ GB.out) ?_
  · intro w hSw
    (try dsimp only at hSw)
    go_simp
  simp only [Act.put, List.setIfInBounds_toArray, List.set_cons_zero, List.set_cons_succ]
  refine wpAnyT_take (i := 5) (oi := { dst := some 32, op := Op.nilCheck (Operand.tmp 31), type := 0, pos := "whole.go:16", after := #[{ on := 4, ground := Ground.data }], guard := none }) (v := (.pointer (some ⟨h, 0, none⟩))) rfl (by kernel_rfl) (fun _ _ _ h => h) (Or.inl ⟨by rfl, ?_⟩) (KB.out _ GB.out) ?_
  · intro w hSw
    (try dsimp only at hSw)
    go_simp
  simp only [Act.put, List.setIfInBounds_toArray, List.set_cons_zero, List.set_cons_succ]
  refine wpAnyT_take (i := 6) (oi := { dst := some 33, op := Op.fieldAddr 68 (Operand.tmp 32) 1, type := 0, pos := "whole.go:16", after := #[{ on := 5, ground := Ground.data }], guard := none }) (v := (.pointer (some ⟨h, 1, none⟩))) rfl (by kernel_rfl) (fun _ _ _ h => h) (Or.inl ⟨by rfl, ?_⟩) (KB.out _ GB.out) ?_
  · intro w hSw
    (try dsimp only at hSw)
    go_simp
  simp only [Act.put, List.setIfInBounds_toArray, List.set_cons_zero, List.set_cons_succ]
  refine wpAnyT_take (i := 7) (oi := { dst := some 34, op := Op.load 3 (Operand.tmp 33), type := 3, pos := "whole.go:16", after := #[{ on := 6, ground := Ground.data }], guard := none }) (v := (.int .i64 (c : Int))) rfl (by kernel_rfl) (fun _ _ _ h => h) (Or.inl ⟨by rfl, ?_⟩) (KB.out _ GB.out) ?_
  · intro w hSw
    (try dsimp only at hSw)
    go_simp
  simp only [Act.put, List.setIfInBounds_toArray, List.set_cons_zero, List.set_cons_succ]
  refine wpAnyT_take (i := 9) (oi := { dst := some 36, op := Op.move (Operand.tmp 1), type := 27, pos := "whole.go:16", after := #[], guard := none }) (v := (.pointer (some ⟨h, 0, none⟩))) rfl (by kernel_rfl) (fun _ _ _ h => h) (Or.inl ⟨by rfl, ?_⟩) (KB.out _ GB.out) ?_
  · intro w hSw
    (try dsimp only at hSw)
    go_simp
  simp only [Act.put, List.setIfInBounds_toArray, List.set_cons_zero, List.set_cons_succ]
  refine wpAnyT_take (i := 10) (oi := { dst := some 37, op := Op.nilCheck (Operand.tmp 36), type := 0, pos := "whole.go:16", after := #[{ on := 9, ground := Ground.data }], guard := none }) (v := (.pointer (some ⟨h, 0, none⟩))) rfl (by kernel_rfl) (fun _ _ _ h => h) (Or.inl ⟨by rfl, ?_⟩) (KB.out _ GB.out) ?_
  · intro w hSw
    (try dsimp only at hSw)
    go_simp
  simp only [Act.put, List.setIfInBounds_toArray, List.set_cons_zero, List.set_cons_succ]
  refine wpAnyT_take (i := 11) (oi := { dst := some 38, op := Op.fieldAddr 68 (Operand.tmp 37) 2, type := 0, pos := "whole.go:16", after := #[{ on := 10, ground := Ground.data }], guard := none }) (v := (.pointer (some ⟨h, 2, none⟩))) rfl (by kernel_rfl) (fun _ _ _ h => h) (Or.inl ⟨by rfl, ?_⟩) (KB.out _ GB.out) ?_
  · intro w hSw
    (try dsimp only at hSw)
    go_simp
  simp only [Act.put, List.setIfInBounds_toArray, List.set_cons_zero, List.set_cons_succ]
  refine wpAnyT_take (i := 12) (oi := { dst := some 39, op := Op.load 66 (Operand.tmp 38), type := 66, pos := "whole.go:16", after := #[{ on := 11, ground := Ground.data }], guard := none }) (v := (.map (some bh))) rfl (by kernel_rfl) (fun _ _ _ h => h) (Or.inl ⟨by rfl, ?_⟩) (KB.out _ GB.out) ?_
  · intro w hSw
    (try dsimp only at hSw)
    go_simp
  simp only [Act.put, List.setIfInBounds_toArray, List.set_cons_zero, List.set_cons_succ]
  refine wpAnyT_one (i := 8) (o := { dst := some 35, op := Op.call { callee := Callee.value (Operand.func 32), args := #[Operand.tmp 30, Operand.tmp 34], argTypes := #[3, 3] }, type := 27, pos := "whole.go:16", after := #[{ on := 3, ground := Ground.data }, { on := 7, ground := Ground.data }], guard := none }) (by kernel_rfl) rfl (fun K hK => ?_)
  go_simp
  go_at_call 32
  refine (empty_any (w := D11) (r := r) (c := c) GA1.out.2.1 GH1.out.2.2).mono ?_
  rintro e w12 ⟨g', b', rfl, hg, hm, hgg, hbb, b⟩
  have lz12 := (show Below _ _ _ from b).size
  replace GB := hid (below_step GB.out b)
  have EG := hid hg
  have EM := hid hm
  have EB : Hid (D1.heap.size ≤ g' ∧ D1.heap.size ≤ b') := ⟨by omega, by omega⟩
  clear hg hm hgg hbb hD0
  clear b
  refine hK.out _ _ (fun _ => KB.out _ GB.out) ?_
  clear hK
  refine wpAnyT_one (i := 13) (o := { dst := some 40, op := Op.call { callee := Callee.value (Operand.func 49), args := #[Operand.tmp 39], argTypes := #[66] }, type := 88, pos := "whole.go:16", after := #[{ on := 12, ground := Ground.data }, { on := 8, ground := Ground.chain }], guard := none }) (by kernel_rfl) rfl (fun K hK => ?_)
  go_simp
  go_at_call 49
  refine (byRows_any (r := m) (c := c) (MB1.out.now GB.out) (NB1.out.now GB.out) WBB.out GH1.out.2.1 GH1.out.2.2).mono ?_
  rintro e w2 ⟨rfl, hrw, b, hb2⟩
  have HRW := hid hrw
  replace EG := hid (EG.out.now b)
  have hb1 := EM.out.lt
  replace EM := hid (EM.out.now b)
  replace GB := hid (below_step GB.out b)
  have HB1 : Hid (b' < w12.heap.size) := hb1
  have HS2 : Hid (w12.heap.size + 2 ≤ w2.heap.size) := hb2
  clear hrw b hb1 hb2
  obtain ⟨B1, hB1⟩ : ∃ B1, w12.heap.size = B1 := ⟨_, rfl⟩
  rw [hB1] at HRW HB1 HS2 ⊢
  clear hB1
  refine hK.out _ _ (fun _ => KB.out _ GB.out) ?_
  clear hK
  refine wpAnyT_one (i := 14) (o := { dst := some 6, op := Op.assign (Operand.tmp 35), type := 27, pos := "whole.go:16", after := #[{ on := 8, ground := Ground.data }, { on := 13, ground := Ground.chain }, { on := 0, ground := Ground.phase }, { on := 1, ground := Ground.phase }, { on := 2, ground := Ground.phase }, { on := 3, ground := Ground.phase }, { on := 4, ground := Ground.phase }, { on := 5, ground := Ground.phase }, { on := 6, ground := Ground.phase }, { on := 7, ground := Ground.phase }, { on := 8, ground := Ground.phase }, { on := 9, ground := Ground.textOnly Departure.lateStores }, { on := 10, ground := Ground.textOnly Departure.lateStores }, { on := 11, ground := Ground.textOnly Departure.lateStores }, { on := 12, ground := Ground.textOnly Departure.lateStores }, { on := 13, ground := Ground.textOnly Departure.lateStoresUnsure }], guard := none }) (by kernel_rfl) rfl (fun K hK => ?_)
  go_simp
  refine hK.out _ _ (fun h => absurd h (by decide)) ?_
  clear hK
  try simp only [Act.put]
  refine wpAnyT_one (i := 15) (o := { dst := some 7, op := Op.assign (Operand.tmp 40), type := 88, pos := "whole.go:16", after := #[{ on := 13, ground := Ground.data }, { on := 14, ground := Ground.chain }, { on := 0, ground := Ground.phase }, { on := 1, ground := Ground.phase }, { on := 2, ground := Ground.phase }, { on := 3, ground := Ground.phase }, { on := 4, ground := Ground.phase }, { on := 5, ground := Ground.phase }, { on := 6, ground := Ground.phase }, { on := 7, ground := Ground.phase }, { on := 8, ground := Ground.phase }, { on := 9, ground := Ground.phase }, { on := 10, ground := Ground.phase }, { on := 11, ground := Ground.phase }, { on := 12, ground := Ground.phase }, { on := 13, ground := Ground.phase }, { on := 14, ground := Ground.phase }], guard := none }) (by kernel_rfl) rfl (fun K hK => ?_)
  go_simp
  refine hK.out _ _ (fun h => absurd h (by decide)) ?_
  clear hK
  try simp only [Act.put]
  refine wpAnyT_done (by kernel_rfl) ?_ _
  have hD1 := (show Below _ _ _ from G1.out).size
  have G2 := hid (below_step G1.out GB.out)
  have MA2 := hid (MA1.out.now GB.out)
  have NA2 := hid (NA1.out.now GB.out)
  have NB2 := hid (NB1.out.now GB.out)
  have x2 := (GA1.out.now GB.out).1.at (i := 2) rfl
  have HRR := hid (And.intro GA1.out.2.1 GA1.out.2.2)
  clear GB KB x0 y1 y2 GA1 MA1 NA1 GH1 MB1 NB1 G1
  go_wp2_with fail
  refine (byRows_any (r := r) (c := m) MA2.out NA2.out WA.out HRR.out.1 HRR.out.2).mono ?_
  rintro e w3 ⟨rfl, hrw2, b3, hs3⟩
  obtain ⟨fR1, bk1, nR1, hm1, hz1⟩ := HRW.out.rz (hi := w2.heap.size) (Nat.le_refl _)
  obtain ⟨fR2, bk2, nR2, hm2, hz2⟩ := hrw2.rz (hi := w3.heap.size) (Nat.le_refl _)
  have HM2 := hid hm2
  have HZ2 := hid hz2
  have HMU : Hid (MuK w B1 (B1 + 2) w2.heap.size m fR1 bk1 nR1 fA fB A B ka kb w3) := ⟨hm1.now b3, hz1.now b3, NA2.out.now b3, NB2.out.now b3, below_step G2.out b3⟩
  have EQ : Hid (Gq w3 g' b' r c (fun _ _ => 0) (ka + kb + 1)) := Gq.empty (EG.out.now b3) (EM.out.now b3)
  have hlt1 := hm1.lt
  have hlt2 := hm2.lt
  have HZN := hid hz2.2
  clear hrw2 hm1 hz1 hm2 hz2 b3 HRW x2 MA2 NB2 G2 EG EM
  go_wp2_with (first | (at_range; refine wpList_range10 _ rfl _ _ rfl _ _ ki10 Try.mapR10 w2.heap.size nR2 fR2 rfl HM2.out ?_; intro w4 hrg hbw hsz) | go_in)
  go_frame
  have HO : Hid (MuO w.heap.size g' b' B1 (B1 + 2) w2.heap.size w2.heap.size (w2.heap.size + 2) w3.heap.size w3.heap.size) := by
    have h1 := EB.out
    have h2 := HB1.out
    have h3 := HS2.out
    exact ⟨by omega, by omega, by omega, by omega, by omega, by omega, by omega, by omega, Nat.le_refl _⟩
  have H0 : Hid (HypM1 w g' b' B1 (B1 + 2) w2.heap.size w2.heap.size (w2.heap.size + 2) w3.heap.size w3.heap.size r m c ka kb fR1 fR2 bk1 bk2 nR1 nR2 fA fB A B nR2 w4) :=
    ⟨_, hrg, HZ2.out.now hbw, HMU.out.now hbw, (EQ.out.now hbw).ext (plF_start NA2.out HZN.out)⟩
  obtain ⟨B2, hB2⟩ : ∃ B2, w2.heap.size = B2 := ⟨_, rfl⟩
  obtain ⟨it, hit⟩ : ∃ it, w3.heap.size = it := ⟨_, rfl⟩
  obtain ⟨lo1, hlo1⟩ : ∃ lo1, B1 + 2 = lo1 := ⟨_, rfl⟩
  rw [hlo1, hit, hB2] at H0 HO
  obtain ⟨lo2, hlo2⟩ : ∃ lo2, B2 + 2 = lo2 := ⟨_, rfl⟩
  rw [hlo2] at H0 HO
  rw [hit, hB2]
  have HPA : Hid (∀ i j, ((A i j).natAbs : Int) < pw ka) := fun i j => (NA2.out.getD i j).zi.lt
  have HPB : Hid (∀ i j, ((B i j).natAbs : Int) < pw kb) := fun i j => (HMU.out.2.2.2.1.getD i j).zi.lt
  clear hrg hbw hsz hit hB2 hlo1 hlo2 HM2 HZ2 HMU EQ HZN NA2 EB HB1 HS2 hlt1 hlt2 hs3 hD1
  go_loopg [8] nR2 (fun gk s8 wx => HypM1 w g' b' B1 lo1 B2 B2 lo2 it it r m c ka kb fR1 fR2 bk1 bk2 nR1 nR2 fA fB A B gk wx)
  case atStart => exact H0.out
  case round =>
    clear H0
    obtain ⟨leftR, hrg, hrz, hmu, hgq⟩ := hrel
    have RG := hid hrg
    have RZ := hid hrz
    have MU := hid hmu
    have GQ := hid hgq
    clear hrg hrz hmu hgq
    go_wp2_with (first | (at_next; refine wpList_next10 _ rfl _ rfl _ ki10 B2 it nR2 fR2 leftR gk rfl RG.out ?_ ?_) | go_in)
    · intro hl
      have GF : Hid (Gq wr g' b' r c (piS m (fun _ => false) A B) (ka + kb + 1)) := GQ.out.ext (plF_end hl.out)
      obtain ⟨f0, n0, e1, e2, e3, e4⟩ := id GF.out
      have hn4 : n0 ≤ 4096 := Nat.le_trans (e2.count2 e4) (Nat.mul_le_mul hr hc)
      have HU := hid (unless_any e1 e2 hn4)
      have FIN : Hid (MadeG2 w r c (piS m (fun _ => false) A B) (ka + kb + 1) (.returned (.tuple #[.pointer (some ⟨g', 0, none⟩), .int .i64 0])) wr) := ⟨_, _, rfl, GF.out, HO.out.a, HO.out.b, MU.out.2.2.2.2⟩
      clear RG RZ MU GQ hl e1 e2 e3 e4 hn4 GF
      go_wp2_with fail
      refine HU.out.mono ?_
      rintro e w6 ⟨rfl, hw6⟩
      have hw7 := hw6.symm
      subst hw7
      clear hw6 HU
      go_wp2
      go_ret2
      exact FIN.out
    · intro i v w5 cnt hca hen
      obtain ⟨hok, hfs, hls, hrg, hlt, hgr, hsz⟩ := hca.out
      clear hca
      have hcl := RG.out.cl hgr
      obtain ⟨z1, z2, z3, z4, nr, z5⟩ := RZ.out.1 i v hfs
      subst z2
      have ho := HO.out
      have RG1 := hid hrg
      have RZ1 := hid (RZ.out.kept hgr (.inr (Nat.le_refl _)))
      have MU1 := hid (MU.out.kept hgr hcl (by have := ho.c; have := ho.d; have := ho.e; have := ho.f; have := ho.g; have := ho.h; omega) (.inr (by have := ho.f; have := ho.g; have := ho.h; omega)) (by have := ho.b; have := ho.c; have := ho.d; have := ho.e; have := ho.f; have := ho.g; have := ho.h; omega))
      have GQ1 := hid (GQ.out.kept hgr hcl (by have := ho.c; have := ho.d; have := ho.e; have := ho.f; have := ho.g; have := ho.h; omega))
      have MR1 := hid (z5.kept hgr (fun e => by simp at e; omega))
      have HIR := hid z1
      have HBK := hid (And.intro z3 z4)
      have HLS := hid hls
      have HLT := hid hlt
      clear hok hfs hls hrg hlt hgr hsz hcl z1 z3 z4 z5 ho RG RZ MU GQ
      simp only [inv] at hen ⊢
      go_wp2_with (first | (at_range; refine wpList_range10 _ rfl _ _ rfl _ _ ks10 Try.map10 (bk2 i) nr (rowf fA (fun _ => false) i) rfl MR1.out ?_; intro w6 hrg hbw hsz) | go_in)
      go_frame
      clear hen
      have H0 : Hid (HypM2 w g' b' B1 lo1 B2 B2 lo2 it it w5.heap.size r m c ka kb i nr fR1 fR2 bk1 bk2 nR1 nR2 cnt leftR fA fB A B nr w6) :=
        ⟨_, hrg, RG1.out.now hbw, RZ1.out.now hbw, MU1.out.now hbw, (GQ1.out.now hbw).ext (pmF_start MU1.out.2.2.1 HLS.out)⟩
      have HI2 : Hid (it < w5.heap.size) := RG1.out.lt
      obtain ⟨it2, hit⟩ : ∃ it2, w5.heap.size = it2 := ⟨_, rfl⟩
      rw [hit] at H0 HI2 ⊢
      clear hrg hbw hsz hit RG1 RZ1 MU1 GQ1 MR1
      go_loopg [10] nr (fun gk2 s10 wx => HypM2 w g' b' B1 lo1 B2 B2 lo2 it it it2 r m c ka kb i nr fR1 fR2 bk1 bk2 nR1 nR2 cnt leftR fA fB A B gk2 wx)
      case atStart => exact H0.out
      case round =>
        clear H0
        obtain ⟨left, hrg, hrg0, hrz, hmu, hgq⟩ := hrel
        have RI := hid hrg
        have RG := hid hrg0
        have RZ := hid hrz
        have MU := hid hmu
        have GQ := hid hgq
        clear hrg hrg0 hrz hmu hgq
        go_wp2_with (first | (at_next; refine wpList_next10 _ rfl _ rfl _ ks10 (bk2 i) it2 nr (rowf fA (fun _ => false) i) left gk rfl RI.out ?_ ?_) | go_in)
        · intro hl
          have GF := hid (GQ.out.ext (pmF_end hl.out))
          obtain ⟨f0, n0, e1, e2, e3, e4⟩ := id GF.out
          have hn4 : decide ((4096 : Int) < (n0 : Int)) = false := decide_eq_false (by have := Nat.le_trans (e2.count2 e4) (Nat.mul_le_mul hr hc); omega)
          have hle := fun ty => e2.len Try.map10 ty
          have y2 := e1.1.at (i := 2) rfl
          have HN1 : Hid (HypM1 w g' b' B1 lo1 B2 B2 lo2 it it r m c ka kb fR1 fR2 bk1 bk2 nR1 nR2 fA fB A B cnt wr) := ⟨_, RG.out, RZ.out, MU.out, GF.out⟩
          clear RI RG RZ MU GQ GF hl e1 e2 e3 e4
          go_wp2_with fail
          go_roundg cnt
          case rel => exact HN1.out
          case measure => exact HLT.out
        · intro i' t v w7 cnt2 hca hen
          obtain ⟨hok, hfs, hls, hrg, hlt, hgr, hsz⟩ := hca.out
          clear hca
          obtain ⟨rfl, hfa⟩ : i' = i ∧ fA (i', t) = some v := by
            unfold rowf at hfs
            split at hfs
            · rename_i q; exact ⟨q.1, hfs⟩
            · cases hfs
          have hcl := RI.out.cl hgr
          have ho := HO.out.all
          have hi2 := HI2.out
          have MU1 := hid (MU.out.kept hgr hcl (by omega) (.inr (by omega)) (by omega))
          obtain ⟨hne0, zm⟩ := MU1.out.2.2.1.at hfa
          replace zm : Zm 0 w7 v (A i' t) ka := zm
          obtain ⟨m1, xn, an, cn, rfl, -⟩ := id zm
          have RI1 := hid hrg
          have RG1 := hid (RG.out.kept hgr (fun e => by simp at e; omega) (fun e => by simp at e; omega))
          have RZ1 := hid (RZ.out.kept hgr (.inr (by omega)))
          have GQ1 := hid (GQ.out.kept hgr hcl (by omega))
          have HTM : Hid (t < m) := (WA.out _ _ hfa).2
          have ZM := hid zm
          have HLS2 := hid hls
          have HLT2 := hid hlt
          have HTO : Hid (inok t) := hok.2
          clear zm hne0 hls hok hfs hfa hrg hgr hsz hcl RI RG RZ MU GQ hlt ho hi2
          obtain ⟨V6, hV⟩ : ∃ V6, (w7.alloc (.cells #[.int .i64 (i' : Int), .int .i64 (t : Int)] 71)).alloc (duo (.bool m1) (.slice an xn.length cn)) = V6 := ⟨_, rfl⟩
          obtain ⟨b6, sz6⟩ := alloc2 w7 (.cells #[.int .i64 (i' : Int), .int .i64 (t : Int)] 71) (duo (.bool m1) (.slice an xn.length cn))
          rw [hV] at b6 sz6
          have PS : Cel V6 w7.heap.size 71 [.int .i64 (i' : Int), .int .i64 (t : Int)] := by
            rw [← hV]
            exact (Cel.new w7 71 [.int .i64 (i' : Int), .int .i64 (t : Int)]).step ((Below.refl _ _).alloc (Nat.le_refl _) _)
          have PV : Duo V6 (w7.heap.size + 1) (.bool m1) (.slice an xn.length cn) := by
            rw [← hV]
            have := heap_alloc_new (w7.alloc (.cells #[.int .i64 (i' : Int), .int .i64 (t : Int)] 71)) (duo (.bool m1) (.slice an xn.length cn))
            simpa [Duo] using this
          have RI2 := hid (RI1.out.now b6)
          have RG2 := hid (RG1.out.now b6)
          have RZ2 := hid (RZ1.out.now b6)
          have MU2 := hid (MU1.out.now b6)
          have GQ2 := hid (GQ1.out.now b6)
          have ZM2 := hid (ZM.out.now b6)
          have EV := hid hV
          have s1 := PS.at (i := 1) rfl
          have v0 := PV.c0
          have v1 := PV.c1
          have y2 := GQ2.out.gd.1.at (i := 2) rfl
          have HLK : Hid (∀ w', Below V6.heap.size V6 w' → (Instr.lookup 88 (.map (some B1)) (.int .i64 (t : Int)) false).run Try.prog w' = .ok ((fR1 t).getD (.map none)) w') := fun w' h' => by
            have := (MU2.out.1.now h').look ki10 Try.mapR10 (zeroR10 _) HTO.out false
            simpa [inv] using this
          obtain ⟨u, hu⟩ : ∃ u, (fR1 t).getD (.map none) = u := ⟨_, rfl⟩
          rw [hu] at HLK
          have HUU := hid hu
          simp only [spv] at hen ⊢
          clear hV b6 sz6 RI1 RG1 RZ1 MU1 GQ1 ZM PS PV hu
          go_wp2_with fail
          rw [EV.out]
          clear hen EV
          have KB : Hid (∀ w', Below V6.heap.size V6 w' → w'.cell? ⟨g', 2, none⟩ = some (.map (some b')) ∧ w'.cell? ⟨w7.heap.size, 1, none⟩ = some (.int .i64 (t : Int)) ∧ w'.cell? ⟨w7.heap.size + 1, 0, none⟩ = some (.bool m1) ∧ w'.cell? ⟨w7.heap.size + 1, 1, none⟩ = some (.slice an xn.length cn) ∧ (Instr.lookup 88 (.map (some B1)) (.int .i64 (t : Int)) false).run Try.prog w' = .ok u w') := fun w' h => ⟨cnow h y2, cnow h s1, cnow h v0, cnow h v1, HLK.out _ h⟩
          refine wp_region_tail (fun w' => w'.cell? ⟨g', 2, none⟩ = some (.map (some b')) ∧ w'.cell? ⟨w7.heap.size, 1, none⟩ = some (.int .i64 (t : Int)) ∧ w'.cell? ⟨w7.heap.size + 1, 0, none⟩ = some (.bool m1) ∧ w'.cell? ⟨w7.heap.size + 1, 1, none⟩ = some (.slice an xn.length cn) ∧ (Instr.lookup 88 (.map (some B1)) (.int .i64 (t : Int)) false).run Try.prog w' = .ok u w') 10 (by kernel_rfl) ?_
          obtain ⟨D31, hD⟩ : ∃ D31, V6.drew = D31 := ⟨_, rfl⟩
          have GB : Hid (Below V6.heap.size V6 D31) := by unfold Hid; rw [← hD]; exact (Below.refl _ _).drew
          rw [hD]
          clear hD
          refine wpAnyT_take (i := 0) (oi := { dst := some 59, op := Op.move (Operand.tmp 6), type := 27, pos := "whole.go:19", after := #[], guard := none }) (v := (.pointer (some ⟨g', 0, none⟩))) rfl (by kernel_rfl) (fun _ _ _ h => h) (Or.inl ⟨by rfl, ?_⟩) (KB.out _ GB.out) ?_
          · intro w hSw
            (try dsimp only at hSw)
            go_simp
          simp only [Act.put, List.setIfInBounds_toArray, List.set_cons_zero, List.set_cons_succ]
          refine wpAnyT_take (i := 1) (oi := { dst := some 60, op := Op.nilCheck (Operand.tmp 59), type := 0, pos := "whole.go:19", after := #[{ on := 0, ground := Ground.data }], guard := none }) (v := (.pointer (some ⟨g', 0, none⟩))) rfl (by kernel_rfl) (fun _ _ _ h => h) (Or.inl ⟨by rfl, ?_⟩) (KB.out _ GB.out) ?_
          · intro w hSw
            (try dsimp only at hSw)
            go_simp
          simp only [Act.put, List.setIfInBounds_toArray, List.set_cons_zero, List.set_cons_succ]
          refine wpAnyT_take (i := 2) (oi := { dst := some 61, op := Op.fieldAddr 68 (Operand.tmp 60) 2, type := 0, pos := "whole.go:19", after := #[{ on := 1, ground := Ground.data }], guard := none }) (v := (.pointer (some ⟨g', 2, none⟩))) rfl (by kernel_rfl) (fun _ _ _ h => h) (Or.inl ⟨by rfl, ?_⟩) (KB.out _ GB.out) ?_
          · intro w hSw
            (try dsimp only at hSw)
            go_simp
          simp only [Act.put, List.setIfInBounds_toArray, List.set_cons_zero, List.set_cons_succ]
          refine wpAnyT_take (i := 3) (oi := { dst := some 62, op := Op.load 66 (Operand.tmp 61), type := 66, pos := "whole.go:19", after := #[{ on := 2, ground := Ground.data }], guard := none }) (v := (.map (some b'))) rfl (by kernel_rfl) (fun _ _ _ h => h) (Or.inl ⟨by rfl, ?_⟩) (KB.out _ GB.out) ?_
          · intro w hSw
            (try dsimp only at hSw)
            go_simp
          simp only [Act.put, List.setIfInBounds_toArray, List.set_cons_zero, List.set_cons_succ]
          refine wpAnyT_take (i := 4) (oi := { dst := some 63, op := Op.move (Operand.tmp 8), type := 3, pos := "whole.go:19", after := #[], guard := none }) (v := (.int .i64 (i' : Int))) rfl (by kernel_rfl) (fun _ _ _ h => h) (Or.inl ⟨by rfl, ?_⟩) (KB.out _ GB.out) ?_
          · intro w hSw
            (try dsimp only at hSw)
            go_simp
          simp only [Act.put, List.setIfInBounds_toArray, List.set_cons_zero, List.set_cons_succ]
          refine wpAnyT_take (i := 5) (oi := { dst := some 64, op := Op.load 35 (Operand.tmp 11), type := 35, pos := "whole.go:19", after := #[], guard := none }) (v := (.agg #[.bool m1, .slice an xn.length cn])) rfl (by kernel_rfl) (fun _ _ _ h => h) (Or.inl ⟨by rfl, ?_⟩) (KB.out _ GB.out) ?_
          · intro w hSw
            (try dsimp only at hSw)
            go_simp
          simp only [Act.put, List.setIfInBounds_toArray, List.set_cons_zero, List.set_cons_succ]
          refine wpAnyT_take (i := 6) (oi := { dst := some 65, op := Op.move (Operand.tmp 7), type := 88, pos := "whole.go:19", after := #[], guard := none }) (v := (.map (some B1))) rfl (by kernel_rfl) (fun _ _ _ h => h) (Or.inl ⟨by rfl, ?_⟩) (KB.out _ GB.out) ?_
          · intro w hSw
            (try dsimp only at hSw)
            go_simp
          simp only [Act.put, List.setIfInBounds_toArray, List.set_cons_zero, List.set_cons_succ]
          refine wpAnyT_take (i := 7) (oi := { dst := some 66, op := Op.fieldAddr 71 (Operand.tmp 10) 1, type := 0, pos := "whole.go:19", after := #[], guard := none }) (v := (.pointer (some ⟨w7.heap.size, 1, none⟩))) rfl (by kernel_rfl) (fun _ _ _ h => h) (Or.inl ⟨by rfl, ?_⟩) (KB.out _ GB.out) ?_
          · intro w hSw
            (try dsimp only at hSw)
            go_simp
          simp only [Act.put, List.setIfInBounds_toArray, List.set_cons_zero, List.set_cons_succ]
          refine wpAnyT_take (i := 8) (oi := { dst := some 67, op := Op.load 3 (Operand.tmp 66), type := 3, pos := "whole.go:19", after := #[{ on := 7, ground := Ground.data }], guard := none }) (v := (.int .i64 (t : Int))) rfl (by kernel_rfl) (fun _ _ _ h => h) (Or.inl ⟨by rfl, ?_⟩) (KB.out _ GB.out) ?_
          · intro w hSw
            (try dsimp only at hSw)
            go_simp
          simp only [Act.put, List.setIfInBounds_toArray, List.set_cons_zero, List.set_cons_succ]
          refine wpAnyT_take (i := 9) (oi := { dst := some 68, op := Op.lookup 88 (Operand.tmp 65) (Operand.tmp 67) false, type := 66, pos := "whole.go:19", after := #[{ on := 6, ground := Ground.data }, { on := 8, ground := Ground.data }], guard := none }) (v := u) rfl (by kernel_rfl) (fun _ _ _ h => h) (Or.inl ⟨by rfl, ?_⟩) (KB.out _ GB.out) ?_
          · intro w hSw
            (try dsimp only at hSw)
            go_simp
          simp only [Act.put, List.setIfInBounds_toArray, List.set_cons_zero, List.set_cons_succ]
          refine wpAnyT_one (i := 10) (o := { dst := some 69, op := Op.call { callee := Callee.value (Operand.func 42), args := #[Operand.tmp 62, Operand.tmp 63, Operand.tmp 64, Operand.tmp 68], argTypes := #[66, 3, 35, 66] }, type := 0, pos := "whole.go:19", after := #[{ on := 3, ground := Ground.data }, { on := 4, ground := Ground.data }, { on := 5, ground := Ground.data }, { on := 9, ground := Ground.data }], guard := none }) (by kernel_rfl) rfl (fun K hK => ?_)
          go_simp
          go_at_call 42
          have MU3 := MU2.out.now GB.out
          have GQ3 := GQ2.out.now GB.out
          have ho := HO.out.all
          have hi2 := HI2.out
          have hbk := HBK.out
          rw [← HUU.out]
          refine (addTimes_row (i := i') (t := t) (B := B) (x := A i' t) (kk := ka) (kr := kb) GQ3.mq (ZM2.out.zi.now GB.out) MU3.2.1 MU3.2.2.2.1 WBB.out (by omega) HIR.out GQ3.gd.2.1 GQ3.gd.2.2 (fun j => ?_) (by omega) hk).mono ?_
          · have := piS_lt hm HPA.out HPB.out (fun x => left x && !decide (x = (i', t))) i' j
            rw [piS_step HTM.out HLS2.out] at this
            simpa [pmF] using this
          rintro e wz ⟨rfl, q1, q2⟩
          obtain ⟨f3, n3, hg3, hm3, -⟩ := id GQ3
          have hcl := hm3.cl q2
          have RI4 := hid ((RI2.out.now GB.out).kept q2 (fun e => by simp at e; omega) (fun e => by simp at e; omega))
          have RG4 := hid ((RG2.out.now GB.out).kept q2 (fun e => by simp at e; omega) (fun e => by simp at e; omega))
          have RZ4 := hid ((RZ2.out.now GB.out).kept q2 (.inl (by omega)))
          have MU4 := hid (MU3.kept q2 hcl (by omega) (.inl (by omega)) (by omega))
          have GQ4 := hid (q1.gq (hg3.cl hcl))
          clear q1 q2 hg3 hm3 hcl MU3 GQ3 ho hi2 hbk
          refine hK.out _ _ (fun h => absurd h (by decide)) ?_
          clear hK
          refine wpAnyT_done (by kernel_rfl) ?_ _
          have HN1 : Hid (HypM2 w g' b' B1 lo1 B2 B2 lo2 it it it2 r m c ka kb i' nr fR1 fR2 bk1 bk2 nR1 nR2 cnt leftR fA fB A B cnt2 wz) := ⟨_, RI4.out, RG4.out, RZ4.out, MU4.out, GQ4.out.ext (pmF_step HTM.out HLS2.out)⟩
          clear RI2 RG2 RZ2 MU2 GQ2 ZM2 RI4 RG4 RZ4 MU4 GQ4 GB KB s1 v0 v1 y2 HLK HUU
          go_wp2_with fail
          go_roundg cnt2
          case rel => exact HN1.out
          case measure => exact HLT2.out
end Go.Proofs.Ytachdicdfhfoaaa
