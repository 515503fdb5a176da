/-
  Dense10: Dense.
-/
import Derived.Test.YtachdicdfhfoaaaQCopy10
import Derived.Test.YtachdicdfhfoaaaQUnit9
import Derived.Test.YtachdicdfhfoaaaQOf10ToTy9
import Derived.Deep.Cut
namespace Go.Proofs.Ytachdicdfhfoaaa
open Go.RowKit Go.ChangeMaps Go.MapKept
set_option linter.unusedVariables false

/-- A grid's integers, row by row. -/
def dnL (r c : Nat) (F : Nat → Nat → Int) : List Int := (List.range (r * c)).map fun t => F (t / c) (t % c)
theorem dnL_length (r c : Nat) (F : Nat → Nat → Int) : (dnL r c F).length = r * c := by simp [dnL]
theorem dnL_zero (r c : Nat) : dnL r c (fun _ _ => 0) = List.replicate (r * c) 0 := by
  unfold dnL
  apply List.ext_getElem
  · simp
  · intro i h1 h2; simp
theorem dnL_ext {r c : Nat} {F F' : Nat → Nat → Int} (h : ∀ i j, F i j = F' i j) : dnL r c F = dnL r c F' := by
  rw [(funext fun i => funext fun j => h i j : F = F')]
theorem dnL_set {r c i j : Nat} {F : Nat → Nat → Int} {z : Int} (hj : j < c) : (dnL r c F).set (i * c + j) z = dnL r c (setF F (i, j) z) := by
  have hc : 0 < c := by omega
  have e1 : (i * c + j) / c = i := by rw [Nat.mul_comm, Nat.mul_add_div hc, Nat.div_eq_of_lt hj]; rfl
  have e3 : (i * c + j) % c = j := by rw [Nat.mul_comm, Nat.mul_add_mod, Nat.mod_eq_of_lt hj]
  apply List.ext_getElem
  · simp [dnL]
  · intro t h1 h2
    rw [List.getElem_set]
    unfold dnL setF
    simp only [List.getElem_map, List.getElem_range, Prod.mk.injEq]
    by_cases q : i * c + j = t
    · subst q
      rw [if_pos rfl, e1, e3, if_pos ⟨rfl, rfl⟩]
    · rw [if_neg q, if_neg]
      rintro ⟨q1, q2⟩
      have := Nat.div_add_mod t c
      rw [q1, q2, Nat.mul_comm] at this
      exact q this
theorem Nm.ty {T : TypeId} {w w' : World} {f : Nat × Nat → Option Value} {F : Nat → Nat → Int} {k : Nat} (h : Nm w f F k) (c : Ty T w w') (hT : 62 ≠ T) : Nm w' f F k := fun i j => (h i j).imp id (fun ⟨v, h1, h2, h3⟩ => ⟨v, h1, h2, h3.ty c hT⟩)
def DnM (W : World) (r c N : Nat) (s1 s2 : Value) (wx : World) : Prop :=
  ∃ mb g0, s1 = .pointer (some ⟨mb, 0, none⟩) ∧ s2 = .int .i64 0 ∧ Cel wx mb 24 [.int .i64 (r : Int), .int .i64 (c : Int), .slice (some ⟨g0, 0, none⟩) N N] ∧ Arr wx g0 (List.replicate N zpair) ∧ mb ≠ g0 ∧ W.heap.size ≤ mb ∧ W.heap.size ≤ g0 ∧ Below W.heap.size W wx
def HypD (w : World) (mb g0 rb it bm n r c N k : Nat) (f : Nat × Nat → Option Value) (F : Nat → Nat → Int) (gk : Nat) (wx : World) : Prop :=
  ∃ left ps, Rg spv spok wx bm it f n left gk ∧ Arr wx g0 ps ∧ ps.length = N ∧ Zcs wx ps (dnL r c (lft left F)) k ∧ Cel wx mb 24 [.int .i64 (r : Int), .int .i64 (c : Int), .slice (some ⟨g0, 0, none⟩) N N] ∧ Cel wx rb 24 [.int .i64 0, .int .i64 0, .slice none 0 0] ∧ Nm wx f F k ∧ Below w.heap.size w wx
theorem Rg.off {w w' : World} {b r n : Nat} {f : Nat × Nat → Option Value} {left : Nat × Nat → Bool} {cnt g0 : Nat} {T : TypeId} {L : List Value} (h : Rg spv spok w b r f n left cnt) (hg : Cel w g0 T L) (hw : ∀ i, i ≠ g0 → w'.heap[i]? = w.heap[i]?) : Rg spv spok w' b r f n left cnt := by
  refine h.keep (hw b (fun e => ?_)) (hw r (fun e => ?_))
  · obtain ⟨es, c, h1, _⟩ := h.mp
    have : w.heap[g0]? = _ := hg
    rw [← e, h1] at this
    cases this
  · obtain ⟨es, clock, since, seen, c0, hb, _, _, hr, _⟩ := h
    have : w.heap[g0]? = _ := hg
    rw [← e, hr] at this
    cases this
theorem off2 {w : World} {g0 t t' : Nat} {x y : Value} : ∀ i, i ≠ g0 → ((w.setCell ⟨g0, t, none⟩ x).setCell ⟨g0, t', none⟩ y).heap[i]? = w.heap[i]? := fun i hi =>
  (Below.heap_setCell _ _ y i (fun e => hi (by simpa using e))).trans (Below.heap_setCell _ _ x i (fun e => hi (by simpa using e)))
set_option maxHeartbeats 3200000 in
set_option maxRecDepth 100000 in
theorem dense_any {w : World} {g bm r c k : Nat} {F : Nat → Nat → Int} (h : Gq w g bm r c F k) (hr : r ≤ 64) (hc : c ≤ 64) : Calls Try.prog 14 #[.pointer (some ⟨g, 0, none⟩)] w (GivesMO w r c (dnL r c F) k) := by
  obtain ⟨W0, hW⟩ : ∃ W0, w.alloc mbox = W0 := ⟨_, rfl⟩
  obtain ⟨b0, sz0⟩ := alo1 w mbox
  rw [hW] at b0 sz0
  have P2 := hid (mbox_new hW)
  obtain ⟨f, n, hg, hm, hf, hw⟩ := h.now b0
  have hbl : bm < w.heap.size := by
    obtain ⟨f0, n0, -, h2, -⟩ := h
    exact h2.lt
  have x0 := hg.1.at (i := 0) rfl
  have x1 := hg.1.at (i := 1) rfl
  have hmx : ¬ (64 : Int) < max (r : Int) (c : Int) := by omega
  have HG := hid hg
  have HM := hid hm
  have HF := hid hf
  have HWI := hid hw
  have HRC := hid (And.intro hr hc)
  have G0 := hid b0
  have EW := hid hW
  have SZ := hid sz0
  have HBL := hid hbl
  have hrc : r * c ≤ 64 * 64 := Nat.mul_le_mul hr hc
  obtain ⟨N, hN⟩ : ∃ N, r * c = N := ⟨_, rfl⟩
  have HNN := hid hN
  rw [hN] at hrc
  clear hg hm hf hw h hbl b0 hW sz0 hN
  go_enter Try.func14, Try.ntmps14
  go_wp2_with fail
  rw [EW.out]
  clear EW
  have KB : Hid (∀ w', Below W0.heap.size W0 w' → w'.cell? ⟨g, 0, none⟩ = some (.int .i64 (r : Int)) ∧ w'.cell? ⟨g, 1, none⟩ = some (.int .i64 (c : Int))) := fun w' h => ⟨cnow h x0, cnow h x1⟩
  refine wp_region_tail (fun w' => w'.cell? ⟨g, 0, none⟩ = some (.int .i64 (r : Int)) ∧ w'.cell? ⟨g, 1, none⟩ = some (.int .i64 (c : Int))) 9 (by kernel_rfl) ?_
  obtain ⟨D1, hD⟩ : ∃ D1, W0.drew = D1 := ⟨_, rfl⟩
  have GB : Hid (Below W0.heap.size W0 D1) := by unfold Hid; rw [← hD]; exact (Below.refl _ _).drew
  rw [hD]
  clear hD
  refine wpAnyT_take (i := 0) (oi := { dst := some 11, op := Op.move (Operand.tmp 0), type := 27, pos := "sparse.go:111", after := #[], guard := none }) (v := (.pointer (some ⟨g, 0, none⟩))) rfl (by kernel_rfl) (fun _ _ _ h => h) (Or.inl ⟨by rfl, ?_⟩) (KB.out _ GB.out) ?_
  · intro w hSw
    (try dsimp only at hSw)
    go_simp
  simp only [Act.put, List.setIfInBounds_toArray, List.set_cons_zero, List.set_cons_succ]
  refine wpAnyT_take (i := 1) (oi := { dst := some 12, op := Op.nilCheck (Operand.tmp 11), type := 0, pos := "sparse.go:111", after := #[{ on := 0, ground := Ground.data }], guard := none }) (v := (.pointer (some ⟨g, 0, none⟩))) rfl (by kernel_rfl) (fun _ _ _ h => h) (Or.inl ⟨by rfl, ?_⟩) (KB.out _ GB.out) ?_
  · intro w hSw
    (try dsimp only at hSw)
    go_simp
  simp only [Act.put, List.setIfInBounds_toArray, List.set_cons_zero, List.set_cons_succ]
  refine wpAnyT_take (i := 2) (oi := { dst := some 13, op := Op.fieldAddr 68 (Operand.tmp 12) 0, type := 0, pos := "sparse.go:111", after := #[{ on := 1, ground := Ground.data }], guard := none }) (v := (.pointer (some ⟨g, 0, none⟩))) rfl (by kernel_rfl) (fun _ _ _ h => h) (Or.inl ⟨by rfl, ?_⟩) (KB.out _ GB.out) ?_
  · intro w hSw
    (try dsimp only at hSw)
    go_simp
  simp only [Act.put, List.setIfInBounds_toArray, List.set_cons_zero, List.set_cons_succ]
  refine wpAnyT_take (i := 3) (oi := { dst := some 14, op := Op.load 3 (Operand.tmp 13), type := 3, pos := "sparse.go:111", after := #[{ on := 2, ground := Ground.data }], guard := none }) (v := (.int .i64 (r : Int))) rfl (by kernel_rfl) (fun _ _ _ h => h) (Or.inl ⟨by rfl, ?_⟩) (KB.out _ GB.out) ?_
  · intro w hSw
    (try dsimp only at hSw)
    go_simp
  simp only [Act.put, List.setIfInBounds_toArray, List.set_cons_zero, List.set_cons_succ]
  refine wpAnyT_take (i := 4) (oi := { dst := some 15, op := Op.move (Operand.tmp 0), type := 27, pos := "sparse.go:111", after := #[], guard := none }) (v := (.pointer (some ⟨g, 0, none⟩))) rfl (by kernel_rfl) (fun _ _ _ h => h) (Or.inl ⟨by rfl, ?_⟩) (KB.out _ GB.out) ?_
  · intro w hSw
    (try dsimp only at hSw)
    go_simp
  simp only [Act.put, List.setIfInBounds_toArray, List.set_cons_zero, List.set_cons_succ]
  refine wpAnyT_take (i := 5) (oi := { dst := some 16, op := Op.nilCheck (Operand.tmp 15), type := 0, pos := "sparse.go:111", after := #[{ on := 4, ground := Ground.data }], guard := none }) (v := (.pointer (some ⟨g, 0, none⟩))) rfl (by kernel_rfl) (fun _ _ _ h => h) (Or.inl ⟨by rfl, ?_⟩) (KB.out _ GB.out) ?_
  · intro w hSw
    (try dsimp only at hSw)
    go_simp
  simp only [Act.put, List.setIfInBounds_toArray, List.set_cons_zero, List.set_cons_succ]
  refine wpAnyT_take (i := 6) (oi := { dst := some 17, op := Op.fieldAddr 68 (Operand.tmp 16) 1, type := 0, pos := "sparse.go:111", after := #[{ on := 5, ground := Ground.data }], guard := none }) (v := (.pointer (some ⟨g, 1, none⟩))) rfl (by kernel_rfl) (fun _ _ _ h => h) (Or.inl ⟨by rfl, ?_⟩) (KB.out _ GB.out) ?_
  · intro w hSw
    (try dsimp only at hSw)
    go_simp
  simp only [Act.put, List.setIfInBounds_toArray, List.set_cons_zero, List.set_cons_succ]
  refine wpAnyT_take (i := 7) (oi := { dst := some 18, op := Op.load 3 (Operand.tmp 17), type := 3, pos := "sparse.go:111", after := #[{ on := 6, ground := Ground.data }], guard := none }) (v := (.int .i64 (c : Int))) rfl (by kernel_rfl) (fun _ _ _ h => h) (Or.inl ⟨by rfl, ?_⟩) (KB.out _ GB.out) ?_
  · intro w hSw
    (try dsimp only at hSw)
    go_simp
  simp only [Act.put, List.setIfInBounds_toArray, List.set_cons_zero, List.set_cons_succ]
  refine wpAnyT_take (i := 8) (oi := { dst := some 19, op := Op.call { callee := Callee.builtin Builtin.max, args := #[Operand.tmp 14, Operand.tmp 18], argTypes := #[3, 3] }, type := 3, pos := "sparse.go:111", after := #[{ on := 3, ground := Ground.data }, { on := 7, ground := Ground.data }], guard := none }) (v := (.int .i64 (max (r : Int) (c : Int)))) rfl (by kernel_rfl) (fun _ _ _ h => h) (Or.inl ⟨by rfl, ?_⟩) (KB.out _ GB.out) ?_
  · intro w hSw
    (try dsimp only at hSw)
    go_simp
  simp only [Act.put, List.setIfInBounds_toArray, List.set_cons_zero, List.set_cons_succ]
  refine wpAnyT_one (i := 9) (o := { dst := some 20, op := Op.binOp BinOp.gtr 3 (Operand.tmp 19) (Operand.const (Value.int IntKind.i64 64)) 3, type := 4, pos := "sparse.go:111", after := #[{ on := 8, ground := Ground.data }], guard := none }) (by kernel_rfl) rfl (fun K hK => ?_)
  go_simp
  refine hK.out _ _ (fun h => absurd h (by decide)) ?_
  clear hK
  try simp only [Act.put]
  refine wpAnyT_done (by kernel_rfl) ?_ _
  have HG1 := hid (HG.out.now GB.out)
  have HM1 := hid (HM.out.now GB.out)
  have HF1 := hid (HF.out.now GB.out)
  have P3 := hid (P2.out.step GB.out)
  have G1 := hid (below_step G0.out GB.out)
  have hD0 := (show Below _ _ _ from GB.out).size
  have SZ1 : Hid (w.heap.size < D1.heap.size) := by have := SZ.out; unfold Hid; omega
  clear x0 x1
  have x0 := HG1.out.1.at (i := 0) rfl
  have x1 := HG1.out.1.at (i := 1) rfl
  clear GB KB HG HM HF P2 G0 hmx hD0 SZ
  go_wp2_with fail
  go_cut [4, 5] from 22 (fun s1 s2 wx => DnM D1 r c N s1 s2 wx)
  case first =>
    have KB : Hid (∀ w', Below D1.heap.size D1 w' → w'.cell? ⟨g, 0, none⟩ = some (.int .i64 (r : Int)) ∧ w'.cell? ⟨g, 1, none⟩ = some (.int .i64 (c : Int))) := fun w' h => ⟨cnow h x0, cnow h x1⟩
    refine wp_region_tail (fun w' => w'.cell? ⟨g, 0, none⟩ = some (.int .i64 (r : Int)) ∧ w'.cell? ⟨g, 1, none⟩ = some (.int .i64 (c : Int))) 14 (by kernel_rfl) ?_
    obtain ⟨D11, hD⟩ : ∃ D11, D1.drew = D11 := ⟨_, rfl⟩
    have GB : Hid (Below D1.heap.size D1 D11) := by unfold Hid; rw [← hD]; exact (Below.refl _ _).drew
    rw [hD]
    clear hD
    refine wpAnyT_take (i := 0) (oi := { dst := some 23, op := Op.move (Operand.tmp 0), type := 27, pos := "sparse.go:115", after := #[], guard := none }) (v := (.pointer (some ⟨g, 0, none⟩))) rfl (by kernel_rfl) (fun _ _ _ h => h) (Or.inl ⟨by rfl, ?_⟩) (KB.out _ GB.out) ?_
    · intro w hSw
      (try dsimp only at hSw)
      go_simp
    simp only [Act.put, List.setIfInBounds_toArray, List.set_cons_zero, List.set_cons_succ]
    refine wpAnyT_take (i := 1) (oi := { dst := some 24, op := Op.nilCheck (Operand.tmp 23), type := 0, pos := "sparse.go:115", after := #[{ on := 0, ground := Ground.data }], guard := none }) (v := (.pointer (some ⟨g, 0, none⟩))) rfl (by kernel_rfl) (fun _ _ _ h => h) (Or.inl ⟨by rfl, ?_⟩) (KB.out _ GB.out) ?_
    · intro w hSw
      (try dsimp only at hSw)
      go_simp
    simp only [Act.put, List.setIfInBounds_toArray, List.set_cons_zero, List.set_cons_succ]
    refine wpAnyT_take (i := 2) (oi := { dst := some 25, op := Op.fieldAddr 68 (Operand.tmp 24) 0, type := 0, pos := "sparse.go:115", after := #[{ on := 1, ground := Ground.data }], guard := none }) (v := (.pointer (some ⟨g, 0, none⟩))) rfl (by kernel_rfl) (fun _ _ _ h => h) (Or.inl ⟨by rfl, ?_⟩) (KB.out _ GB.out) ?_
    · intro w hSw
      (try dsimp only at hSw)
      go_simp
    simp only [Act.put, List.setIfInBounds_toArray, List.set_cons_zero, List.set_cons_succ]
    refine wpAnyT_take (i := 3) (oi := { dst := some 26, op := Op.load 3 (Operand.tmp 25), type := 3, pos := "sparse.go:115", after := #[{ on := 2, ground := Ground.data }], guard := none }) (v := (.int .i64 (r : Int))) rfl (by kernel_rfl) (fun _ _ _ h => h) (Or.inl ⟨by rfl, ?_⟩) (KB.out _ GB.out) ?_
    · intro w hSw
      (try dsimp only at hSw)
      go_simp
    simp only [Act.put, List.setIfInBounds_toArray, List.set_cons_zero, List.set_cons_succ]
    refine wpAnyT_take (i := 4) (oi := { dst := some 27, op := Op.move (Operand.tmp 0), type := 27, pos := "sparse.go:115", after := #[], guard := none }) (v := (.pointer (some ⟨g, 0, none⟩))) rfl (by kernel_rfl) (fun _ _ _ h => h) (Or.inl ⟨by rfl, ?_⟩) (KB.out _ GB.out) ?_
    · intro w hSw
      (try dsimp only at hSw)
      go_simp
    simp only [Act.put, List.setIfInBounds_toArray, List.set_cons_zero, List.set_cons_succ]
    refine wpAnyT_take (i := 5) (oi := { dst := some 28, op := Op.nilCheck (Operand.tmp 27), type := 0, pos := "sparse.go:115", after := #[{ on := 4, ground := Ground.data }], guard := none }) (v := (.pointer (some ⟨g, 0, none⟩))) rfl (by kernel_rfl) (fun _ _ _ h => h) (Or.inl ⟨by rfl, ?_⟩) (KB.out _ GB.out) ?_
    · intro w hSw
      (try dsimp only at hSw)
      go_simp
    simp only [Act.put, List.setIfInBounds_toArray, List.set_cons_zero, List.set_cons_succ]
    refine wpAnyT_take (i := 6) (oi := { dst := some 29, op := Op.fieldAddr 68 (Operand.tmp 28) 1, type := 0, pos := "sparse.go:115", after := #[{ on := 5, ground := Ground.data }], guard := none }) (v := (.pointer (some ⟨g, 1, none⟩))) rfl (by kernel_rfl) (fun _ _ _ h => h) (Or.inl ⟨by rfl, ?_⟩) (KB.out _ GB.out) ?_
    · intro w hSw
      (try dsimp only at hSw)
      go_simp
    simp only [Act.put, List.setIfInBounds_toArray, List.set_cons_zero, List.set_cons_succ]
    refine wpAnyT_take (i := 7) (oi := { dst := some 30, op := Op.load 3 (Operand.tmp 29), type := 3, pos := "sparse.go:115", after := #[{ on := 6, ground := Ground.data }], guard := none }) (v := (.int .i64 (c : Int))) rfl (by kernel_rfl) (fun _ _ _ h => h) (Or.inl ⟨by rfl, ?_⟩) (KB.out _ GB.out) ?_
    · intro w hSw
      (try dsimp only at hSw)
      go_simp
    simp only [Act.put, List.setIfInBounds_toArray, List.set_cons_zero, List.set_cons_succ]
    refine wpAnyT_two (i := 8) (j := 12) (oi := { dst := some 31, op := Op.call { callee := Callee.value (Operand.func 46), args := #[Operand.tmp 26, Operand.tmp 30], argTypes := #[3, 3] }, type := 31, pos := "sparse.go:115", after := #[{ on := 3, ground := Ground.data }, { on := 7, ground := Ground.data }], guard := none }) (oj := { dst := some 4, op := Op.alloc 24, type := 0, pos := "sparse.go:115", after := #[], guard := none }) (by kernel_rfl) rfl rfl (fun K hK => ?_) (fun K hK => ?_)
    · skip
      go_simp
      go_at_call 46
      refine (zero_any (w := D11) HRC.out.1 HRC.out.2).mono ?_
      rintro e w12 ⟨g0, he, hge, har, b⟩
      rw [HNN.out] at he
      subst he
      have lz12 := (show Below _ _ _ from b).size
      have hlo : D1.heap.size ≤ g0 := Nat.le_trans (show Below _ _ _ from GB.out).size hge
      replace GB := hid (below_step GB.out b)
      rw [HNN.out] at har
      have AR := hid har
      clear har
      clear b hge
      refine hK.out _ _ (fun _ => KB.out _ GB.out) ?_
      clear hK
      refine wpAnyT_take (i := 9) (oi := { dst := some 22, op := Op.move (Operand.tmp 31), type := 31, pos := "sparse.go:115", after := #[{ on := 8, ground := Ground.data }], guard := none }) (v := (.tuple #[(.agg #[.int .i64 (r : Int), .int .i64 (c : Int), .slice (some ⟨g0, 0, none⟩) N N]), (.int .i64 0)])) rfl (by kernel_rfl) (fun _ _ _ h => h) (Or.inl ⟨by rfl, ?_⟩) (KB.out _ GB.out) ?_
      · intro w hSw
        (try dsimp only at hSw)
        go_simp
      simp only [Act.put, List.setIfInBounds_toArray, List.set_cons_zero, List.set_cons_succ]
      refine wpAnyT_take (i := 10) (oi := { dst := some 32, op := Op.extract (Operand.tmp 22) 0, type := 24, pos := "sparse.go:115", after := #[{ on := 9, ground := Ground.data }], guard := none }) (v := (.agg #[.int .i64 (r : Int), .int .i64 (c : Int), .slice (some ⟨g0, 0, none⟩) N N])) rfl (by kernel_rfl) (fun _ _ _ h => h) (Or.inl ⟨by rfl, ?_⟩) (KB.out _ GB.out) ?_
      · intro w hSw
        (try dsimp only at hSw)
        go_simp
      simp only [Act.put, List.setIfInBounds_toArray, List.set_cons_zero, List.set_cons_succ]
      refine wpAnyT_take (i := 11) (oi := { dst := some 33, op := Op.extract (Operand.tmp 22) 1, type := 28, pos := "sparse.go:115", after := #[{ on := 9, ground := Ground.data }, { on := 13, ground := Ground.gcOnly Departure.lateStores }], guard := none }) (v := (.int .i64 0)) rfl (by kernel_rfl) (fun _ _ _ h => h) (Or.inl ⟨by rfl, ?_⟩) (KB.out _ GB.out) ?_
      · intro w hSw
        (try dsimp only at hSw)
        go_simp
      simp only [Act.put, List.setIfInBounds_toArray, List.set_cons_zero, List.set_cons_succ]
      refine wpAnyT_one (i := 12) (o := { dst := some 4, op := Op.alloc 24, type := 0, pos := "sparse.go:115", after := #[], guard := none }) (by kernel_rfl) rfl (fun K hK => ?_)
      have hne : w12.heap.size ≠ g0 := by have := AR.out.1.blk; omega
      have hmb : D1.heap.size ≤ w12.heap.size := (show Below _ _ _ from GB.out).size
      go_simp
      obtain ⟨V13, hW⟩ : ∃ V13, w12.alloc mbox = V13 := ⟨_, rfl⟩
      obtain ⟨b, sz13⟩ := alo1 w12 mbox
      rw [hW] at b sz13
      replace GB := hid (below_step GB.out b)
      replace AR := hid (AR.out.step b)
      have PM := hid (mbox_new hW)
      rw [hW]
      clear hW b
      refine hK.out _ _ (fun _ => KB.out _ GB.out) ?_
      clear hK
      try simp only [Act.put]
      refine wpAnyT_one (i := 13) (o := { dst := none, op := Op.store 24 (Operand.tmp 4) (Operand.tmp 32), type := 0, pos := "sparse.go:115", after := #[{ on := 12, ground := Ground.data }, { on := 10, ground := Ground.data }, { on := 8, ground := Ground.chain }, { on := 0, ground := Ground.phase }, { on := 1, ground := Ground.phase }, { on := 2, ground := Ground.phase }, { on := 3, ground := Ground.phase }, { on := 4, ground := Ground.phase }, { on := 5, ground := Ground.phase }, { on := 6, ground := Ground.phase }, { on := 7, ground := Ground.phase }, { on := 8, ground := Ground.phase }, { on := 9, ground := Ground.phase }, { on := 10, ground := Ground.phase }, { on := 11, ground := Ground.textOnly Departure.lateStores }, { on := 12, ground := Ground.phase }], guard := none }) (by kernel_rfl) rfl (fun K hK => ?_)
      have e0 := PM.out.at (i := 0) rfl
      have e1 := PM.out.at (i := 1) rfl
      have e2 := PM.out.at (i := 2) rfl
      have e3 := PM.out.fz 0
      have e4 := PM.out.fz 1
      have e5 := PM.out.fz 2
      go_simp
      clear e0 e1 e2 e3 e4 e5
      obtain ⟨V14, hW⟩ : ∃ V14, (((V13.setCell ⟨w12.heap.size, 0, none⟩ (.int .i64 (r : Int))).setCell ⟨w12.heap.size, 1, none⟩ (.int .i64 (c : Int))).setCell ⟨w12.heap.size, 2, none⟩ (.slice (some ⟨g0, 0, none⟩) N N)) = V14 := ⟨_, rfl⟩
      have PM2 : Hid (Cel V14 w12.heap.size 24 [.int .i64 (r : Int), .int .i64 (c : Int), .slice (some ⟨g0, 0, none⟩) N N]) := by unfold Hid; rw [← hW]; exact PM.out.put3 _ _ _
      have AR2 : Hid (Arr V14 g0 (List.replicate N zpair)) := by unfold Hid; rw [← hW]; exact AR.out.put3 hne _ _ _
      replace GB : Hid (Below D1.heap.size D1 V14) := by unfold Hid; rw [← hW]; exact below_put3 GB.out hmb _ _ _
      rw [hW]
      clear hW
      refine hK.out _ _ (fun _ => KB.out _ GB.out) ?_
      clear hK
      try simp only [Act.put]
      refine wpAnyT_one (i := 14) (o := { dst := some 5, op := Op.assign (Operand.tmp 33), type := 28, pos := "sparse.go:115", after := #[{ on := 11, ground := Ground.data }, { on := 13, ground := Ground.chain }, { on := 0, ground := Ground.phase }, { on := 1, ground := Ground.phase }, { on := 2, ground := Ground.phase }, { on := 3, ground := Ground.phase }, { on := 4, ground := Ground.phase }, { on := 5, ground := Ground.phase }, { on := 6, ground := Ground.phase }, { on := 7, ground := Ground.phase }, { on := 8, ground := Ground.phase }, { on := 9, ground := Ground.phase }, { on := 10, ground := Ground.phase }, { on := 11, ground := Ground.phase }, { on := 12, ground := Ground.phase }, { on := 13, ground := Ground.phase }], guard := none }) (by kernel_rfl) rfl (fun K hK => ?_)
      go_simp
      refine hK.out _ _ (fun h => absurd h (by decide)) ?_
      clear hK
      try simp only [Act.put]
      refine wpAnyT_done (by kernel_rfl) ?_ _
      have FIN : Hid (DnM D1 r c N (.pointer (some ⟨w12.heap.size, 0, none⟩)) (.int .i64 0) V14) := ⟨_, _, rfl, rfl, PM2.out, AR2.out, hne, hmb, hlo, GB.out⟩
      clear GB KB PM AR PM2 AR2 hne hmb hlo
      go_wp2_with fail
      go_meet
      exact FIN.out
    · skip
      have hmb : D1.heap.size ≤ D11.heap.size := (show Below _ _ _ from GB.out).size
      go_simp
      obtain ⟨V15, hW⟩ : ∃ V15, D11.alloc mbox = V15 := ⟨_, rfl⟩
      obtain ⟨b, sz15⟩ := alo1 D11 mbox
      rw [hW] at b sz15
      replace GB := hid (below_step GB.out b)
      have PM := hid (mbox_new hW)
      rw [hW]
      clear hW b
      refine hK.out _ _ (fun _ => KB.out _ GB.out) ?_
      clear hK
      try simp only [Act.put]
      refine wpAnyT_one (i := 8) (o := { dst := some 31, op := Op.call { callee := Callee.value (Operand.func 46), args := #[Operand.tmp 26, Operand.tmp 30], argTypes := #[3, 3] }, type := 31, pos := "sparse.go:115", after := #[{ on := 3, ground := Ground.data }, { on := 7, ground := Ground.data }], guard := none }) (by kernel_rfl) rfl (fun K hK => ?_)
      go_simp
      go_at_call 46
      refine (zero_any (w := V15) HRC.out.1 HRC.out.2).mono ?_
      rintro e w16 ⟨g0, he, hge, har, b⟩
      rw [HNN.out] at he
      subst he
      have lz16 := (show Below _ _ _ from b).size
      have hlo : D1.heap.size ≤ g0 := Nat.le_trans (show Below _ _ _ from GB.out).size hge
      have hne : D11.heap.size ≠ g0 := by have := PM.out.blk; omega
      replace GB := hid (below_step GB.out b)
      replace PM := hid (PM.out.step b)
      rw [HNN.out] at har
      have AR := hid har
      clear har
      clear b hge
      refine hK.out _ _ (fun _ => KB.out _ GB.out) ?_
      clear hK
      refine wpAnyT_take (i := 9) (oi := { dst := some 22, op := Op.move (Operand.tmp 31), type := 31, pos := "sparse.go:115", after := #[{ on := 8, ground := Ground.data }], guard := none }) (v := (.tuple #[(.agg #[.int .i64 (r : Int), .int .i64 (c : Int), .slice (some ⟨g0, 0, none⟩) N N]), (.int .i64 0)])) rfl (by kernel_rfl) (fun _ _ _ h => h) (Or.inl ⟨by rfl, ?_⟩) (KB.out _ GB.out) ?_
      · intro w hSw
        (try dsimp only at hSw)
        go_simp
      simp only [Act.put, List.setIfInBounds_toArray, List.set_cons_zero, List.set_cons_succ]
      refine wpAnyT_take (i := 10) (oi := { dst := some 32, op := Op.extract (Operand.tmp 22) 0, type := 24, pos := "sparse.go:115", after := #[{ on := 9, ground := Ground.data }], guard := none }) (v := (.agg #[.int .i64 (r : Int), .int .i64 (c : Int), .slice (some ⟨g0, 0, none⟩) N N])) rfl (by kernel_rfl) (fun _ _ _ h => h) (Or.inl ⟨by rfl, ?_⟩) (KB.out _ GB.out) ?_
      · intro w hSw
        (try dsimp only at hSw)
        go_simp
      simp only [Act.put, List.setIfInBounds_toArray, List.set_cons_zero, List.set_cons_succ]
      refine wpAnyT_take (i := 11) (oi := { dst := some 33, op := Op.extract (Operand.tmp 22) 1, type := 28, pos := "sparse.go:115", after := #[{ on := 9, ground := Ground.data }, { on := 13, ground := Ground.gcOnly Departure.lateStores }], guard := none }) (v := (.int .i64 0)) rfl (by kernel_rfl) (fun _ _ _ h => h) (Or.inl ⟨by rfl, ?_⟩) (KB.out _ GB.out) ?_
      · intro w hSw
        (try dsimp only at hSw)
        go_simp
      simp only [Act.put, List.setIfInBounds_toArray, List.set_cons_zero, List.set_cons_succ]
      refine wpAnyT_one (i := 13) (o := { dst := none, op := Op.store 24 (Operand.tmp 4) (Operand.tmp 32), type := 0, pos := "sparse.go:115", after := #[{ on := 12, ground := Ground.data }, { on := 10, ground := Ground.data }, { on := 8, ground := Ground.chain }, { on := 0, ground := Ground.phase }, { on := 1, ground := Ground.phase }, { on := 2, ground := Ground.phase }, { on := 3, ground := Ground.phase }, { on := 4, ground := Ground.phase }, { on := 5, ground := Ground.phase }, { on := 6, ground := Ground.phase }, { on := 7, ground := Ground.phase }, { on := 8, ground := Ground.phase }, { on := 9, ground := Ground.phase }, { on := 10, ground := Ground.phase }, { on := 11, ground := Ground.textOnly Departure.lateStores }, { on := 12, ground := Ground.phase }], guard := none }) (by kernel_rfl) rfl (fun K hK => ?_)
      have e0 := PM.out.at (i := 0) rfl
      have e1 := PM.out.at (i := 1) rfl
      have e2 := PM.out.at (i := 2) rfl
      have e3 := PM.out.fz 0
      have e4 := PM.out.fz 1
      have e5 := PM.out.fz 2
      go_simp
      clear e0 e1 e2 e3 e4 e5
      obtain ⟨V17, hW⟩ : ∃ V17, (((w16.setCell ⟨D11.heap.size, 0, none⟩ (.int .i64 (r : Int))).setCell ⟨D11.heap.size, 1, none⟩ (.int .i64 (c : Int))).setCell ⟨D11.heap.size, 2, none⟩ (.slice (some ⟨g0, 0, none⟩) N N)) = V17 := ⟨_, rfl⟩
      have PM2 : Hid (Cel V17 D11.heap.size 24 [.int .i64 (r : Int), .int .i64 (c : Int), .slice (some ⟨g0, 0, none⟩) N N]) := by unfold Hid; rw [← hW]; exact PM.out.put3 _ _ _
      have AR2 : Hid (Arr V17 g0 (List.replicate N zpair)) := by unfold Hid; rw [← hW]; exact AR.out.put3 hne _ _ _
      replace GB : Hid (Below D1.heap.size D1 V17) := by unfold Hid; rw [← hW]; exact below_put3 GB.out hmb _ _ _
      rw [hW]
      clear hW
      refine hK.out _ _ (fun _ => KB.out _ GB.out) ?_
      clear hK
      try simp only [Act.put]
      refine wpAnyT_one (i := 14) (o := { dst := some 5, op := Op.assign (Operand.tmp 33), type := 28, pos := "sparse.go:115", after := #[{ on := 11, ground := Ground.data }, { on := 13, ground := Ground.chain }, { on := 0, ground := Ground.phase }, { on := 1, ground := Ground.phase }, { on := 2, ground := Ground.phase }, { on := 3, ground := Ground.phase }, { on := 4, ground := Ground.phase }, { on := 5, ground := Ground.phase }, { on := 6, ground := Ground.phase }, { on := 7, ground := Ground.phase }, { on := 8, ground := Ground.phase }, { on := 9, ground := Ground.phase }, { on := 10, ground := Ground.phase }, { on := 11, ground := Ground.phase }, { on := 12, ground := Ground.phase }, { on := 13, ground := Ground.phase }], guard := none }) (by kernel_rfl) rfl (fun K hK => ?_)
      go_simp
      refine hK.out _ _ (fun h => absurd h (by decide)) ?_
      clear hK
      try simp only [Act.put]
      refine wpAnyT_done (by kernel_rfl) ?_ _
      have FIN : Hid (DnM D1 r c N (.pointer (some ⟨D11.heap.size, 0, none⟩)) (.int .i64 0) V17) := ⟨_, _, rfl, rfl, PM2.out, AR2.out, hne, hmb, hlo, GB.out⟩
      clear GB KB PM AR PM2 AR2 hne hmb hlo
      go_wp2_with fail
      go_meet
      exact FIN.out
  case rest =>
  obtain ⟨mb, g0, rfl, rfl, pm, ar, hne, hmb, hg0, bw⟩ := hcut
  have G := hid (below_step G1.out bw)
  have x2 := (HG1.out.now bw).1.at (i := 2) rfl
  have HM2 := hid (HM1.out.now bw)
  have HF2 := hid (HF1.out.now bw)
  have P4 := hid (P3.out.step bw)
  have PM := hid pm
  have AR := hid ar
  have HNE := hid hne
  have HLO : Hid (w.heap.size < mb ∧ w.heap.size < g0) := by have := SZ1.out; exact ⟨by omega, by omega⟩
  clear pm ar hne hmb hg0 bw HG1 HM1 HF1 P3 G1 x0 x1 SZ1
  go_wp2_with (first | (at_range; refine wpList_range10 _ rfl _ _ rfl _ _ ks10 Try.map10 bm n f rfl HM2.out ?_; intro w4 hrg hbw hsz) | go_in)
  go_frame
  have H0 : Hid (HypD w mb g0 w.heap.size wc.heap.size bm n r c N k f F n w4) := by
    refine ⟨_, _, hrg, AR.out.step hbw, by simp, ?_, PM.out.step hbw, P4.out.step hbw, HF2.out.now hbw, below_step G.out hbw⟩
    rw [← dnL_ext (lft_start HF2.out), dnL_zero, HNN.out]
    exact zcs_zero _ _ _
  have HIT : Hid (w.heap.size ≤ wc.heap.size) := G.out.size
  obtain ⟨it, hit⟩ : ∃ it, wc.heap.size = it := ⟨_, rfl⟩
  rw [hit] at H0 HIT ⊢
  clear hrg hbw hsz hit HM2 HF2 G PM AR P4 x2
  go_loopg [6] n (fun gk s4 wx => HypD w mb g0 w.heap.size it bm n r c N k f F gk wx)
  case atStart => exact H0.out
  case round =>
    clear H0
    obtain ⟨left, ps, hrg, har, hpl, hzc, hpm, hpr, hnf, hG⟩ := hrel
    have RG := hid hrg
    have AR := hid har
    have PL := hid hpl
    have ZC := hid hzc
    have PM := hid hpm
    have PR := hid hpr
    have NF := hid hnf
    have G := hid hG
    clear hrg har hpl hzc hpm hpr hnf hG
    go_wp2_with (first | (at_next; refine wpList_next10 _ rfl _ rfl _ ks10 bm it n f left gk rfl RG.out ?_ ?_) | go_in)
    · intro hl
      have MC : Hid (Mc wr (matv r c (.slice (some ⟨g0, 0, none⟩) N N)) r c (dnL r c F) k) := by
        refine ⟨_, ps, rfl, ?_, ?_, by rw [dnL_length], HRC.out.1, HRC.out.2⟩
        · have := AR.out.prs (B := 0) (Nat.zero_le _) (by rw [PL.out]; omega) (cap := N) (by rw [PL.out]; exact Nat.le_refl _)
          rwa [PL.out] at this
        · rw [← dnL_ext (lft_end hl.out)]
          exact ZC.out
      have u0 := PM.out.at (i := 0) rfl
      have u1 := PM.out.at (i := 1) rfl
      have u2 := PM.out.at (i := 2) rfl
      have t0 := PR.out.at (i := 0) rfl
      have t1 := PR.out.at (i := 1) rfl
      have t2 := PR.out.at (i := 2) rfl
      have t3 := PR.out.fz 0
      have t4 := PR.out.fz 1
      have t5 := PR.out.fz 2
      have FIN : Hid (GivesMO w r c (dnL r c F) k (.returned (.tuple #[.agg #[.int .i64 (r : Int), .int .i64 (c : Int), .slice (some ⟨g0, 0, none⟩) N N], .int .i64 0])) (put3 wr w.heap.size (.int .i64 (r : Int)) (.int .i64 (c : Int)) (.slice (some ⟨g0, 0, none⟩) N N))) :=
        ⟨_, rfl, MC.out.wk PR.out _ _ _, below_put3 G.out (Nat.le_refl _) _ _ _⟩
      have PF := hid (PR.out.put3 (.int .i64 (r : Int)) (.int .i64 (c : Int)) (.slice (some ⟨g0, 0, none⟩) N N))
      clear RG AR PL ZC PM PR NF G hl MC
      go_wp2
      exact bodyPost_ret (mback1 Try.results14 PF.out _ (by rfl) (by rfl)) rfl FIN.out
    · intro i j v w5 cnt hca hen
      obtain ⟨hok, hfs, hls, hrg, hlt, hgr, hsz⟩ := hca.out
      clear hca
      have hcl := RG.out.cl hgr
      obtain ⟨hne0, zm⟩ := (NF.out.cl hcl).at hfs
      obtain ⟨m, xs, a, c0, rfl, -⟩ := id zm
      have RG1 := hid hrg
      have AR1 : Hid (Arr w5 g0 ps) := ⟨AR.out.1.cl hcl, AR.out.2⟩
      have ZC1 := hid (ZC.out.wk hcl.wk)
      have PM1 := hid (PM.out.cl hcl)
      have PR1 := hid (PR.out.cl hcl)
      have NF1 := hid (NF.out.cl hcl)
      have G1 := hid (below_grown G.out hgr HIT.out)
      have ZM := hid zm
      have HLS := hid hls
      have HLT := hid hlt
      obtain ⟨hi, hj⟩ := HWI.out (i, j) _ hfs
      replace hi : i < r := hi
      replace hj : j < c := hj
      clear zm hne0 hls hok hfs hrg hgr hsz hcl RG AR ZC PM PR NF G hlt
      obtain ⟨V6, hV⟩ : ∃ V6, (w5.alloc (.cells #[.int .i64 (i : Int), .int .i64 (j : Int)] 71)).alloc (duo (.bool m) (.slice a xs.length c0)) = V6 := ⟨_, rfl⟩
      obtain ⟨b6, sz6⟩ := alloc2 w5 (.cells #[.int .i64 (i : Int), .int .i64 (j : Int)] 71) (duo (.bool m) (.slice a xs.length c0))
      rw [hV] at b6 sz6
      have PS : Cel V6 w5.heap.size 71 [.int .i64 (i : Int), .int .i64 (j : Int)] := by
        rw [← hV]
        exact (Cel.new w5 71 [.int .i64 (i : Int), .int .i64 (j : Int)]).step ((Below.refl _ _).alloc (Nat.le_refl _) _)
      have PV : Duo V6 (w5.heap.size + 1) (.bool m) (.slice a xs.length c0) := by
        rw [← hV]
        have := heap_alloc_new (w5.alloc (.cells #[.int .i64 (i : Int), .int .i64 (j : Int)] 71)) (duo (.bool m) (.slice a xs.length c0))
        simpa [Duo] using this
      have RG2 := hid (RG1.out.now b6)
      have AR2 := hid (AR1.out.step b6)
      have ZC2 := hid (ZC1.out.now b6)
      have PM2 := hid (PM1.out.step b6)
      have PR2 := hid (PR1.out.step b6)
      have NF2 := hid (NF1.out.now b6)
      have G2 := hid (below_step G1.out b6)
      have ZM2 := hid (ZM.out.now b6)
      have EV := hid hV
      have s0 := PS.at (i := 0) rfl
      have s1 := PS.at (i := 1) rfl
      have v0 := PV.c0
      have v1 := PV.c1
      have y1 := PM2.out.at (i := 1) rfl
      have y2 := PM2.out.at (i := 2) rfl
      have hix : i * c + j < N := by
        rw [← HNN.out]
        have h1 : (i + 1) * c ≤ r * c := Nat.mul_le_mul_right c hi
        have h2 : (i + 1) * c = i * c + c := by rw [Nat.add_mul, Nat.one_mul]
        omega
      have hm0 := wrapM9 (i := i) (c := c) (by omega) hc
      have DS : Hid (∀ z, (dnL r c (lft left F)).set (i * c + j) z = dnL r c (setF (lft left F) (i, j) z)) := fun z => dnL_set hj
      obtain ⟨lo, hlo⟩ : ∃ lo, i * c = lo := ⟨_, rfl⟩
      rw [hlo] at hm0 hix DS
      obtain ⟨ix, hix2⟩ : ∃ ix, lo + j = ix := ⟨_, rfl⟩
      rw [hix2] at hix DS
      have ha0 : IntKind.i64.wrap ((lo : Int) + (j : Int)) = (ix : Int) := by rw [wrap_is] <;> omega
      have ha1 := ha0
      have hm1 := hm0
      rw [IntKind.wrap_i64] at ha1 hm1
      have hixN : (ix : Int) < (N : Int) := by omega
      have PL2 : Hid (ix < ps.length) := by unfold Hid; rw [PL.out]; exact hix
      simp only [spv] at hen ⊢
      clear hV b6 sz6 RG1 AR1 ZC1 PM1 PR1 NF1 G1 ZM PS PV hlo hix2 hi hj
      go_wp2_with fail
      rw [EV.out]
      clear hen EV
      have KB : Hid (∀ w', Below V6.heap.size V6 w' → w'.cell? ⟨mb, 2, none⟩ = some (.slice (some ⟨g0, 0, none⟩) N N) ∧ w'.cell? ⟨mb, 1, none⟩ = some (.int .i64 (c : Int)) ∧ w'.cell? ⟨w5.heap.size, 0, none⟩ = some (.int .i64 (i : Int)) ∧ w'.cell? ⟨w5.heap.size, 1, none⟩ = some (.int .i64 (j : Int)) ∧ w'.cell? ⟨w5.heap.size + 1, 0, none⟩ = some (.bool m) ∧ w'.cell? ⟨w5.heap.size + 1, 1, none⟩ = some (.slice a xs.length c0)) := fun w' h => ⟨cnow h y2, cnow h y1, cnow h s0, cnow h s1, cnow h v0, cnow h v1⟩
      refine wp_region_tail (fun w' => w'.cell? ⟨mb, 2, none⟩ = some (.slice (some ⟨g0, 0, none⟩) N N) ∧ w'.cell? ⟨mb, 1, none⟩ = some (.int .i64 (c : Int)) ∧ w'.cell? ⟨w5.heap.size, 0, none⟩ = some (.int .i64 (i : Int)) ∧ w'.cell? ⟨w5.heap.size, 1, none⟩ = some (.int .i64 (j : Int)) ∧ w'.cell? ⟨w5.heap.size + 1, 0, none⟩ = some (.bool m) ∧ w'.cell? ⟨w5.heap.size + 1, 1, none⟩ = some (.slice a xs.length c0)) 13 (by kernel_rfl) ?_
      obtain ⟨D21, hD⟩ : ∃ D21, V6.drew = D21 := ⟨_, rfl⟩
      have GB : Hid (Below V6.heap.size V6 D21) := by unfold Hid; rw [← hD]; exact (Below.refl _ _).drew
      rw [hD]
      clear hD
      refine wpAnyT_take (i := 0) (oi := { dst := some 44, op := Op.fieldAddr 24 (Operand.tmp 4) 2, type := 0, pos := "sparse.go:117", after := #[], guard := none }) (v := (.pointer (some ⟨mb, 2, none⟩))) rfl (by kernel_rfl) (fun _ _ _ h => h) (Or.inl ⟨by rfl, ?_⟩) (KB.out _ GB.out) ?_
      · intro w hSw
        (try dsimp only at hSw)
        go_simp
      simp only [Act.put, List.setIfInBounds_toArray, List.set_cons_zero, List.set_cons_succ]
      refine wpAnyT_take (i := 1) (oi := { dst := some 45, op := Op.load 22 (Operand.tmp 44), type := 22, pos := "sparse.go:117", after := #[{ on := 0, ground := Ground.data }], guard := none }) (v := (.slice (some ⟨g0, 0, none⟩) N N)) rfl (by kernel_rfl) (fun _ _ _ h => h) (Or.inl ⟨by rfl, ?_⟩) (KB.out _ GB.out) ?_
      · intro w hSw
        (try dsimp only at hSw)
        go_simp
      simp only [Act.put, List.setIfInBounds_toArray, List.set_cons_zero, List.set_cons_succ]
      refine wpAnyT_take (i := 2) (oi := { dst := some 46, op := Op.fieldAddr 71 (Operand.tmp 6) 0, type := 0, pos := "sparse.go:117", after := #[], guard := none }) (v := (.pointer (some ⟨w5.heap.size, 0, none⟩))) rfl (by kernel_rfl) (fun _ _ _ h => h) (Or.inl ⟨by rfl, ?_⟩) (KB.out _ GB.out) ?_
      · intro w hSw
        (try dsimp only at hSw)
        go_simp
      simp only [Act.put, List.setIfInBounds_toArray, List.set_cons_zero, List.set_cons_succ]
      refine wpAnyT_take (i := 3) (oi := { dst := some 47, op := Op.load 3 (Operand.tmp 46), type := 3, pos := "sparse.go:117", after := #[{ on := 2, ground := Ground.data }], guard := none }) (v := (.int .i64 (i : Int))) rfl (by kernel_rfl) (fun _ _ _ h => h) (Or.inl ⟨by rfl, ?_⟩) (KB.out _ GB.out) ?_
      · intro w hSw
        (try dsimp only at hSw)
        go_simp
      simp only [Act.put, List.setIfInBounds_toArray, List.set_cons_zero, List.set_cons_succ]
      refine wpAnyT_take (i := 4) (oi := { dst := some 48, op := Op.fieldAddr 24 (Operand.tmp 4) 1, type := 0, pos := "sparse.go:117", after := #[], guard := none }) (v := (.pointer (some ⟨mb, 1, none⟩))) rfl (by kernel_rfl) (fun _ _ _ h => h) (Or.inl ⟨by rfl, ?_⟩) (KB.out _ GB.out) ?_
      · intro w hSw
        (try dsimp only at hSw)
        go_simp
      simp only [Act.put, List.setIfInBounds_toArray, List.set_cons_zero, List.set_cons_succ]
      refine wpAnyT_take (i := 5) (oi := { dst := some 49, op := Op.load 3 (Operand.tmp 48), type := 3, pos := "sparse.go:117", after := #[{ on := 4, ground := Ground.data }], guard := none }) (v := (.int .i64 (c : Int))) rfl (by kernel_rfl) (fun _ _ _ h => h) (Or.inl ⟨by rfl, ?_⟩) (KB.out _ GB.out) ?_
      · intro w hSw
        (try dsimp only at hSw)
        go_simp
      simp only [Act.put, List.setIfInBounds_toArray, List.set_cons_zero, List.set_cons_succ]
      refine wpAnyT_take (i := 6) (oi := { dst := some 50, op := Op.binOp BinOp.mul 3 (Operand.tmp 47) (Operand.tmp 49) 3, type := 3, pos := "sparse.go:117", after := #[{ on := 3, ground := Ground.data }, { on := 5, ground := Ground.data }], guard := none }) (v := (.int .i64 (lo : Int))) rfl (by kernel_rfl) (fun _ _ _ h => h) (Or.inl ⟨by rfl, ?_⟩) (KB.out _ GB.out) ?_
      · intro w hSw
        (try dsimp only at hSw)
        go_simp
      simp only [Act.put, List.setIfInBounds_toArray, List.set_cons_zero, List.set_cons_succ]
      refine wpAnyT_take (i := 7) (oi := { dst := some 51, op := Op.fieldAddr 71 (Operand.tmp 6) 1, type := 0, pos := "sparse.go:117", after := #[], guard := none }) (v := (.pointer (some ⟨w5.heap.size, 1, none⟩))) rfl (by kernel_rfl) (fun _ _ _ h => h) (Or.inl ⟨by rfl, ?_⟩) (KB.out _ GB.out) ?_
      · intro w hSw
        (try dsimp only at hSw)
        go_simp
      simp only [Act.put, List.setIfInBounds_toArray, List.set_cons_zero, List.set_cons_succ]
      refine wpAnyT_take (i := 8) (oi := { dst := some 52, op := Op.load 3 (Operand.tmp 51), type := 3, pos := "sparse.go:117", after := #[{ on := 7, ground := Ground.data }], guard := none }) (v := (.int .i64 (j : Int))) rfl (by kernel_rfl) (fun _ _ _ h => h) (Or.inl ⟨by rfl, ?_⟩) (KB.out _ GB.out) ?_
      · intro w hSw
        (try dsimp only at hSw)
        go_simp
      simp only [Act.put, List.setIfInBounds_toArray, List.set_cons_zero, List.set_cons_succ]
      refine wpAnyT_take (i := 9) (oi := { dst := some 53, op := Op.binOp BinOp.add 3 (Operand.tmp 50) (Operand.tmp 52) 3, type := 3, pos := "sparse.go:117", after := #[{ on := 6, ground := Ground.data }, { on := 8, ground := Ground.data }], guard := none }) (v := (.int .i64 (ix : Int))) rfl (by kernel_rfl) (fun _ _ _ h => h) (Or.inl ⟨by rfl, ?_⟩) (KB.out _ GB.out) ?_
      · intro w hSw
        (try dsimp only at hSw)
        go_simp
      simp only [Act.put, List.setIfInBounds_toArray, List.set_cons_zero, List.set_cons_succ]
      refine wpAnyT_take (i := 10) (oi := { dst := some 54, op := Op.load 35 (Operand.tmp 7), type := 35, pos := "sparse.go:117", after := #[], guard := none }) (v := (.agg #[.bool m, .slice a xs.length c0])) rfl (by kernel_rfl) (fun _ _ _ h => h) (Or.inl ⟨by rfl, ?_⟩) (KB.out _ GB.out) ?_
      · intro w hSw
        (try dsimp only at hSw)
        go_simp
      simp only [Act.put, List.setIfInBounds_toArray, List.set_cons_zero, List.set_cons_succ]
      refine wpAnyT_one (i := 11) (o := { dst := some 55, op := Op.call { callee := Callee.value (Operand.func 34), args := #[Operand.tmp 54], argTypes := #[35] }, type := 35, pos := "sparse.go:117", after := #[{ on := 10, ground := Ground.data }], guard := none }) (by kernel_rfl) rfl (fun K hK => ?_)
      go_simp
      go_at_call 34
      refine (least_z (ZM2.out.zi.now GB.out)).mono ?_
      rintro e w22 ⟨v, rfl, m1, b⟩
      have lz22 := (show Below _ _ _ from b).size
      replace GB := hid (below_step GB.out b)
      have RG3 := hid (RG2.out.now GB.out)
      have AR3 := hid (AR2.out.step GB.out)
      have ZC3 := hid (ZC2.out.now GB.out)
      have PM3 := hid (PM2.out.step GB.out)
      have PR3 := hid (PR2.out.step GB.out)
      have NF3 := hid (NF2.out.now GB.out)
      have G3 := hid (below_step G2.out GB.out)
      have M1 := hid m1.zc
      obtain ⟨nr, xr, ar, cr, rfl⟩ := m1.parts
      clear m1
      clear b
      refine hK.out _ _ (fun _ => KB.out _ GB.out) ?_
      clear hK
      refine wpAnyT_take (i := 12) (oi := { dst := some 56, op := Op.indexAddr 22 (Operand.tmp 45) (Operand.tmp 53), type := 0, pos := "sparse.go:117", after := #[{ on := 1, ground := Ground.data }, { on := 9, ground := Ground.data }, { on := 0, ground := Ground.phase }, { on := 1, ground := Ground.phase }, { on := 2, ground := Ground.phase }, { on := 3, ground := Ground.phase }, { on := 4, ground := Ground.phase }, { on := 5, ground := Ground.phase }, { on := 6, ground := Ground.phase }, { on := 7, ground := Ground.phase }, { on := 8, ground := Ground.phase }, { on := 9, ground := Ground.phase }, { on := 10, ground := Ground.phase }, { on := 11, ground := Ground.phase }], guard := none }) (v := (.pointer (some ⟨g0, ix * 2, none⟩))) rfl (by kernel_rfl) (fun _ _ _ h => h) (Or.inl ⟨by rfl, ?_⟩) (KB.out _ GB.out) ?_
      · intro w hSw
        (try dsimp only at hSw)
        go_simp
      simp only [Act.put, List.setIfInBounds_toArray, List.set_cons_zero, List.set_cons_succ]
      refine wpAnyT_one (i := 13) (o := { dst := none, op := Op.store 35 (Operand.tmp 56) (Operand.tmp 55), type := 0, pos := "sparse.go:117", after := #[{ on := 12, ground := Ground.data }, { on := 11, ground := Ground.data }, { on := 11, ground := Ground.chain }, { on := 0, ground := Ground.phase }, { on := 1, ground := Ground.phase }, { on := 2, ground := Ground.phase }, { on := 3, ground := Ground.phase }, { on := 4, ground := Ground.phase }, { on := 5, ground := Ground.phase }, { on := 6, ground := Ground.phase }, { on := 7, ground := Ground.phase }, { on := 8, ground := Ground.phase }, { on := 9, ground := Ground.phase }, { on := 10, ground := Ground.phase }, { on := 11, ground := Ground.phase }], guard := none }) (by kernel_rfl) rfl (fun K hK => ?_)
      have hps : ps[ix]? = some (ps[ix]'PL2.out) := List.getElem?_eq_getElem PL2.out
      obtain ⟨e0, e1⟩ := AR3.out.at hps
      have e2 := AR3.out.1.fz (ix * 2)
      have e3 := AR3.out.1.fz (ix * 2 + 1)
      clear hps
      go_simp
      clear e0 e1 e2 e3
      obtain ⟨V23, hW⟩ : ∃ V23, ((w22.setCell ⟨g0, ix * 2, none⟩ (.bool nr)).setCell ⟨g0, ix * 2 + 1, none⟩ (.slice ar xr.length cr)) = V23 := ⟨_, rfl⟩
      have HN1 : Hid (HypD w mb g0 w.heap.size it bm n r c N k f F cnt V23) := by
        unfold Hid
        rw [← hW]
        have hk := AR3.out.wk PL2.out (.bool nr) (.slice ar xr.length cr)
        have hty := (Ty.set (i := ix * 2) (u := .bool nr) AR3.out.1).trans (Ty.set (i := ix * 2 + 1) (u := .slice ar xr.length cr) (AR3.out.1.set (ix * 2) (.bool nr)))
        refine ⟨_, _, RG3.out.off AR3.out.1 off2, AR3.out.put PL2.out M1.out.zi.isI, by simpa using PL.out, ?_, (PM3.out.ne (fun e => HNE.out e.symm)).ne (fun e => HNE.out e.symm), (PR3.out.ne (by have := HLO.out; omega)).ne (by have := HLO.out; omega), NF3.out.ty hty (by decide), bset (bset G3.out (by have := HLO.out; omega)) (by have := HLO.out; omega)⟩
        rw [← dnL_ext (lft_step HLS.out), ← DS.out]
        exact ZC3.out.set hk (M1.out.wk hk)
      rw [hW]
      clear hW
      refine hK.out _ _ (fun h => absurd h (by decide)) ?_
      clear hK
      try simp only [Act.put]
      refine wpAnyT_done (by kernel_rfl) ?_ _
      clear RG2 AR2 ZC2 PM2 PR2 NF2 G2 ZM2 GB KB s0 s1 v0 v1 y1 y2 RG3 AR3 ZC3 PM3 PR3 NF3 G3 M1 DS
      go_wp2_with fail
      go_roundg cnt
      case rel => exact HN1.out
      case measure => exact HLT.out
end Go.Proofs.Ytachdicdfhfoaaa
