/-
  Set10: Set.
-/
import Derived.Test.YtachdicdfhfoaaaQPut10ToTailA
import Derived.Test.YtachdicdfhfoaaaQFil9ToDot9
namespace Go.Proofs.Ytachdicdfhfoaaa
open Go.RowKit Go.ChangeMaps Go.MapKept
set_option linter.unusedVariables false

/-- A place set. -/
def setF (F : Nat → Nat → Int) (s : Nat × Nat) (z : Int) : Nat → Nat → Int := fun i j => if (i, j) = s then z else F i j
def Setd (w : World) (b n : Nat) (f : Nat × Nat → Option Value) (F : Nat → Nat → Int) (s : Nat × Nat) (z : Int) (k l : Nat) (e : Ending) (w' : World) : Prop :=
  ∃ f', e = .returned (.int .i64 0) ∧ Mp spv spok w' b f' (putN (f s) z n) ∧ Nm w' f' (setF F s z) (max k l) ∧ (∀ x, x ≠ s → f' x = f x) ∧ w.grownBy w' (some b)
theorem Nm.upd {w : World} {f : Nat × Nat → Option Value} {F : Nat → Nat → Int} {k l : Nat} {s : Nat × Nat} {v : Value} {z : Int} (h : Nm w f F k) (hz : Zm 0 w v z l) : Nm w (Go.Proofs.Ytachdicdfhfoaaa.upd f s (if z = 0 then Option.none else some v)) (setF F s z) (max k l) := by
  intro i j
  by_cases e : (i, j) = s
  · subst e
    rw [upd_self]
    simp only [setF, if_true]
    by_cases q : z = 0
    · exact .inl ⟨by simp [q], q⟩
    · exact .inr ⟨v, by simp [q], q, hz.more (by omega)⟩
  · rw [upd_ne _ _ e]
    simp only [setF, e, if_false]
    rcases h i j with h | ⟨u, h1, h2, h3⟩
    · exact .inl h
    · exact .inr ⟨u, h1, h2, h3.more (by omega)⟩
theorem set_end {w W w' : World} {b n k l : Nat} {f : Nat × Nat → Option Value} {F : Nat → Nat → Int} {s : Nat × Nat} {v : Value} {z : Int} (hmW : Mp spv spok W b f n) (hf : Nm w f F k) (hc : Cl w W)
    (q1 : Mp spv spok w' b (upd f s (if z = 0 then Option.none else some v)) (putN (f s) z n)) (hz : Zm 0 W v z l) (hg : w.grownBy w' (some b)) (hWw : W.grownBy w' (some b)) : Setd w b n f F s z k l (.returned (.int .i64 0)) w' :=
  ⟨_, rfl, q1, Nm.upd ((hf.cl hc).cl (hmW.cl hWw)) (hz.cl (hmW.cl hWw)), fun x hx => upd_ne _ _ hx, hg⟩
set_option maxHeartbeats 3200000 in
theorem set_held {w : World} {g b r c n i j k l : Nat} {f : Nat × Nat → Option Value} {F : Nat → Nat → Int} {v : Value} {z : Int} (h : Gd w g b r c) (hm : Mp spv spok w b f n) (hf : Nm w f F k) (hn : n < maxLen) (hi : i < r) (hj : j < c) (hz : Zi w v z l) (hh : (f (i, j)).isSome = true) :
    Calls Try.prog 10 #[.pointer (some ⟨g, 0, none⟩), .int .i64 (i : Int), .int .i64 (j : Int), v] w (Setd w b n f F (i, j) z k l) := by
  obtain ⟨m, xs, a, c0, rfl, -⟩ := id hz
  obtain ⟨W0, hW⟩ : ∃ W0, w.alloc (duo (.bool m) (.slice a xs.length c0)) = W0 := ⟨_, rfl⟩
  obtain ⟨b0, sz0⟩ := alo1 w (duo (.bool m) (.slice a xs.length c0))
  rw [hW] at b0 sz0
  have PB : Duo W0 w.heap.size (.bool m) (.slice a xs.length c0) := by rw [← hW]; exact heap_alloc_new w _
  have ok : spok (i, j) := ⟨Nat.lt_of_lt_of_le hi h.2.1, Nat.lt_of_lt_of_le hj h.2.2⟩
  have HP := hid (hasPlace_yes (h.now b0) hi hj)
  have EW := hid hW
  -- the place's box
  obtain ⟨V1, hV⟩ : ∃ V1, W0.alloc (.cells #[.int .i64 (i : Int), .int .i64 (j : Int)] 71) = V1 := ⟨_, rfl⟩
  have PS : Cel V1 W0.heap.size 71 [.int .i64 (i : Int), .int .i64 (j : Int)] := by
    rw [← hV]
    exact Cel.new W0 71 [.int .i64 (i : Int), .int .i64 (j : Int)]
  have b1 : Below W0.heap.size W0 V1 := by
    rw [← hV]
    exact (Below.refl _ _).alloc (Nat.le_refl _) _
  have EV := hid hV
  have bw := below_step b0 b1
  have x2 := (h.now bw).1.at (i := 2) rfl
  have s0 := PS.at (i := 0) rfl
  have s1 := PS.at (i := 1) rfl
  obtain ⟨held, hheld⟩ : ∃ held, (f (i, j)).isSome = held := ⟨_, rfl⟩
  obtain ⟨u, hu⟩ : ∃ u, (f (i, j)).getD (.agg #[.bool false, .slice none 0 0]) = u := ⟨_, rfl⟩
  obtain ⟨mu, xu, au, cu, rfl, -⟩ : ∃ n xs a c, u = .agg #[.bool n, .slice a xs.length c] ∧ Mine 0 w (.slice a xs.length c) xs := by
    have := hf.getD i j
    rw [hu] at this
    obtain ⟨n, xs, a, c, e, q, -⟩ := this
    exact ⟨n, xs, a, c, e, q⟩
  have HLK : Hid (∀ w', Below V1.heap.size V1 w' → (Instr.lookup 66 (.map (some b)) (.agg #[.int .i64 (i : Int), .int .i64 (j : Int)]) true).run Try.prog w' = .ok (.tuple #[.agg #[.bool mu, .slice au xu.length cu], .bool held]) w') := fun w' h' => by
    have := ((hm.now bw).now h').look ks10 Try.map10 (zero10 _) ok true
    rw [hu, hheld] at this
    exact this
  generalize xu.length = lu at *
  have HM1 := hid (hm.now bw)
  have HF := hid hf
  have HG := hid (h.now bw)
  have GW := hid bw
  have HZ := hid (hz.now bw)
  have PV1 := hid (PB.step b1)
  have PS1 := hid PS
  have HN := hid hn
  have HO := hid ok
  have HHE := hid hheld
  have HSZ := hid sz0
  clear hf h hm b0 b1 hW hV PB PS hi hj ok hz hn hu hheld bw sz0
  go_enter Try.func10, Try.ntmps10
  go_wp2_with fail
  rw [EW.out]
  refine HP.out.mono ?_
  rintro e w1 ⟨rfl, hw1⟩
  have hw2 := hw1.symm
  subst hw2
  go_wp2_with fail
  rw [EV.out]
  clear EW EV HP
  have KB : Hid (∀ w', Below V1.heap.size V1 w' → w'.cell? ⟨g, 2, none⟩ = some (.map (some b)) ∧ w'.cell? ⟨W0.heap.size, 0, none⟩ = some (.int .i64 (i : Int)) ∧ w'.cell? ⟨W0.heap.size, 1, none⟩ = some (.int .i64 (j : Int)) ∧ (Instr.lookup 66 (.map (some b)) (.agg #[.int .i64 (i : Int), .int .i64 (j : Int)]) true).run Try.prog w' = .ok (.tuple #[.agg #[.bool mu, .slice au lu cu], .bool held]) w') := fun w' h => ⟨cnow h x2, cnow h s0, cnow h s1, HLK.out _ h⟩
  refine wp_region_tail (fun w' => w'.cell? ⟨g, 2, none⟩ = some (.map (some b)) ∧ w'.cell? ⟨W0.heap.size, 0, none⟩ = some (.int .i64 (i : Int)) ∧ w'.cell? ⟨W0.heap.size, 1, none⟩ = some (.int .i64 (j : Int)) ∧ (Instr.lookup 66 (.map (some b)) (.agg #[.int .i64 (i : Int), .int .i64 (j : Int)]) true).run Try.prog w' = .ok (.tuple #[.agg #[.bool mu, .slice au lu cu], .bool held]) w') 11 (by kernel_rfl) ?_
  obtain ⟨D1, hD⟩ : ∃ D1, V1.drew = D1 := ⟨_, rfl⟩
  have GB : Hid (Below V1.heap.size V1 D1) := by unfold Hid; rw [← hD]; exact (Below.refl _ _).drew
  rw [hD]
  clear hD
  have GB0 := hid GB.out
  refine wpAnyT_take (i := 0) (oi := { dst := some 21, op := Op.move (Operand.tmp 0), type := 27, pos := "sparse.go:70", after := #[], guard := none }) (v := (.pointer (some ⟨g, 0, none⟩))) rfl (by kernel_rfl) (fun _ _ _ h => h) (Or.inl ⟨by rfl, ?_⟩) (KB.out _ GB.out) ?_
  · intro w hSw
    (try dsimp only at hSw)
    go_simp
  simp only [Act.put, List.setIfInBounds_toArray, List.set_cons_zero, List.set_cons_succ]
  refine wpAnyT_take (i := 1) (oi := { dst := some 22, op := Op.nilCheck (Operand.tmp 21), type := 0, pos := "sparse.go:70", after := #[{ on := 0, ground := Ground.data }], guard := none }) (v := (.pointer (some ⟨g, 0, none⟩))) rfl (by kernel_rfl) (fun _ _ _ h => h) (Or.inl ⟨by rfl, ?_⟩) (KB.out _ GB.out) ?_
  · intro w hSw
    (try dsimp only at hSw)
    go_simp
  simp only [Act.put, List.setIfInBounds_toArray, List.set_cons_zero, List.set_cons_succ]
  refine wpAnyT_take (i := 2) (oi := { dst := some 23, op := Op.fieldAddr 68 (Operand.tmp 22) 2, type := 0, pos := "sparse.go:70", after := #[{ on := 1, ground := Ground.data }], guard := none }) (v := (.pointer (some ⟨g, 2, none⟩))) rfl (by kernel_rfl) (fun _ _ _ h => h) (Or.inl ⟨by rfl, ?_⟩) (KB.out _ GB.out) ?_
  · intro w hSw
    (try dsimp only at hSw)
    go_simp
  simp only [Act.put, List.setIfInBounds_toArray, List.set_cons_zero, List.set_cons_succ]
  refine wpAnyT_take (i := 3) (oi := { dst := some 24, op := Op.load 66 (Operand.tmp 23), type := 66, pos := "sparse.go:70", after := #[{ on := 2, ground := Ground.data }], guard := none }) (v := (.map (some b))) rfl (by kernel_rfl) (fun _ _ _ h => h) (Or.inl ⟨by rfl, ?_⟩) (KB.out _ GB.out) ?_
  · intro w hSw
    (try dsimp only at hSw)
    go_simp
  simp only [Act.put, List.setIfInBounds_toArray, List.set_cons_zero, List.set_cons_succ]
  refine wpAnyT_take (i := 4) (oi := { dst := some 25, op := Op.load 71 (Operand.tmp 9), type := 71, pos := "sparse.go:70", after := #[], guard := none }) (v := (.agg #[.int .i64 (i : Int), .int .i64 (j : Int)])) rfl (by kernel_rfl) (fun _ _ _ h => h) (Or.inl ⟨by rfl, ?_⟩) (KB.out _ GB.out) ?_
  · intro w hSw
    (try dsimp only at hSw)
    go_simp
  simp only [Act.put, List.setIfInBounds_toArray, List.set_cons_zero, List.set_cons_succ]
  refine wpAnyT_take (i := 5) (oi := { dst := some 26, op := Op.lookup 66 (Operand.tmp 24) (Operand.tmp 25) true, type := 78, pos := "sparse.go:70", after := #[{ on := 3, ground := Ground.data }, { on := 4, ground := Ground.data }], guard := none }) (v := (.tuple #[(.agg #[.bool mu, .slice au lu cu]), (.bool held)])) rfl (by kernel_rfl) (fun _ _ _ h => h) (Or.inl ⟨by rfl, ?_⟩) (KB.out _ GB.out) ?_
  · intro w hSw
    (try dsimp only at hSw)
    go_simp
  simp only [Act.put, List.setIfInBounds_toArray, List.set_cons_zero, List.set_cons_succ]
  refine wpAnyT_take (i := 6) (oi := { dst := some 20, op := Op.move (Operand.tmp 26), type := 78, pos := "sparse.go:70", after := #[{ on := 5, ground := Ground.data }], guard := none }) (v := (.tuple #[(.agg #[.bool mu, .slice au lu cu]), (.bool held)])) rfl (by kernel_rfl) (fun _ _ _ h => h) (Or.inl ⟨by rfl, ?_⟩) (KB.out _ GB.out) ?_
  · intro w hSw
    (try dsimp only at hSw)
    go_simp
  simp only [Act.put, List.setIfInBounds_toArray, List.set_cons_zero, List.set_cons_succ]
  refine wpAnyT_take (i := 7) (oi := { dst := some 27, op := Op.extract (Operand.tmp 20) 0, type := 35, pos := "sparse.go:70", after := #[{ on := 6, ground := Ground.data }], guard := none }) (v := (.agg #[.bool mu, .slice au lu cu])) rfl (by kernel_rfl) (fun _ _ _ h => h) (Or.inl ⟨by rfl, ?_⟩) (KB.out _ GB.out) ?_
  · intro w hSw
    (try dsimp only at hSw)
    go_simp
  simp only [Act.put, List.setIfInBounds_toArray, List.set_cons_zero, List.set_cons_succ]
  refine wpAnyT_take (i := 8) (oi := { dst := some 28, op := Op.extract (Operand.tmp 20) 1, type := 4, pos := "sparse.go:70", after := #[{ on := 6, ground := Ground.data }, { on := 10, ground := Ground.gcOnly Departure.lateStores }], guard := none }) (v := (.bool held)) rfl (by kernel_rfl) (fun _ _ _ h => h) (Or.inl ⟨by rfl, ?_⟩) (KB.out _ GB.out) ?_
  · intro w hSw
    (try dsimp only at hSw)
    go_simp
  simp only [Act.put, List.setIfInBounds_toArray, List.set_cons_zero, List.set_cons_succ]
  refine wpAnyT_one (i := 9) (o := { dst := some 10, op := Op.alloc 35, type := 0, pos := "sparse.go:70", after := #[], guard := none }) (by kernel_rfl) rfl (fun K hK => ?_)
  go_simp
  obtain ⟨V2, hW⟩ : ∃ V2, D1.alloc zbox = V2 := ⟨_, rfl⟩
  obtain ⟨b, sz2⟩ := alo1 D1 zbox
  rw [hW] at b sz2
  replace GB := hid (below_step GB.out b)
  have PD : Duo V2 D1.heap.size (.bool false) (.slice none 0 0) := by rw [← hW]; exact heap_alloc_new D1 zbox
  have PV := hid PD
  clear PD
  rw [hW]
  clear hW b
  refine hK.out _ _ (fun _ => KB.out _ GB.out) ?_
  clear hK
  try simp only [Act.put]
  refine wpAnyT_one (i := 10) (o := { dst := none, op := Op.store 35 (Operand.tmp 10) (Operand.tmp 27), type := 0, pos := "sparse.go:70", after := #[{ on := 9, ground := Ground.data }, { on := 7, ground := Ground.data }, { on := 0, ground := Ground.phase }, { on := 1, ground := Ground.phase }, { on := 2, ground := Ground.phase }, { on := 3, ground := Ground.phase }, { on := 4, ground := Ground.phase }, { on := 5, ground := Ground.phase }, { on := 6, ground := Ground.phase }, { on := 7, ground := Ground.phase }, { on := 8, ground := Ground.textOnly Departure.lateStores }, { on := 9, ground := Ground.phase }], guard := none }) (by kernel_rfl) rfl (fun K hK => ?_)
  have e0 := PV.out.c0
  have e1 := PV.out.c1
  have e2 := PV.out.fz 0
  have e3 := PV.out.fz 1
  go_simp
  clear e0 e1 e2 e3
  obtain ⟨V3, hW⟩ : ∃ V3, ((V2.setCell ⟨D1.heap.size, 0, none⟩ (.bool mu)).setCell ⟨D1.heap.size, 1, none⟩ (.slice au lu cu)) = V3 := ⟨_, rfl⟩
  replace GB : Hid (Below V1.heap.size V1 V3) := by
    unfold Hid
    rw [← hW]
    exact bset (bset GB.out (by have := (show Below _ _ _ from GB0.out).size; omega)) (by have := (show Below _ _ _ from GB0.out).size; omega)
  rw [hW]
  clear hW
  refine hK.out _ _ (fun _ => KB.out _ GB.out) ?_
  clear hK
  try simp only [Act.put]
  refine wpAnyT_one (i := 11) (o := { dst := some 11, op := Op.assign (Operand.tmp 28), type := 4, pos := "sparse.go:70", after := #[{ on := 8, ground := Ground.data }, { on := 10, ground := Ground.chain }, { on := 0, ground := Ground.phase }, { on := 1, ground := Ground.phase }, { on := 2, ground := Ground.phase }, { on := 3, ground := Ground.phase }, { on := 4, ground := Ground.phase }, { on := 5, ground := Ground.phase }, { on := 6, ground := Ground.phase }, { on := 7, ground := Ground.phase }, { on := 8, ground := Ground.phase }, { on := 9, ground := Ground.phase }, { on := 10, ground := Ground.phase }], guard := none }) (by kernel_rfl) rfl (fun K hK => ?_)
  go_simp
  refine hK.out _ _ (fun h => absurd h (by decide)) ?_
  clear hK
  try simp only [Act.put]
  refine wpAnyT_done (by kernel_rfl) ?_ _
  have GV := hid (below_step GW.out GB.out)
  have HM2 := hid (HM1.out.now GB.out)
  have HG2 := hid (HG.out.now GB.out)
  have HZ2 := hid (HZ.out.now GB.out)
  have PV2 := hid (PV1.out.step GB.out)
  have PS2 := hid (PS1.out.step GB.out)
  clear HLK KB x2 s0 s1 HM1 HG HZ PV1 PS1 GB GB0 PV GW
  have hh2 := HHE.out.symm.trans hh
  subst hh2
  clear hh HHE
  go_wp2_with fail
  obtain ⟨WX, hWX⟩ : ∃ WX, V3 = WX := ⟨_, rfl⟩
  rw [hWX] at GV HM2 HG2 HZ2 PV2 PS2
  rw [hWX]
  clear hWX
  have GX := hid GV.out
  have HMX := hid HM2.out
  have HZX := hid HZ2.out
  have z2 := HG2.out.1.at (i := 2) rfl
  have t0 := PS2.out.at (i := 0) rfl
  have t1 := PS2.out.at (i := 1) rfl
  have v0 := PV2.out.c0
  have v1 := PV2.out.c1
  clear GV HM2 HG2 HZ2 PV2 PS2
  have KB : Hid (∀ w', Below WX.heap.size WX w' → w'.cell? ⟨g, 2, none⟩ = some (.map (some b)) ∧ w'.cell? ⟨W0.heap.size, 0, none⟩ = some (.int .i64 (i : Int)) ∧ w'.cell? ⟨W0.heap.size, 1, none⟩ = some (.int .i64 (j : Int)) ∧ w'.cell? ⟨w.heap.size, 0, none⟩ = some (.bool m) ∧ w'.cell? ⟨w.heap.size, 1, none⟩ = some (.slice a xs.length c0)) := fun w' h => ⟨cnow h z2, cnow h t0, cnow h t1, cnow h v0, cnow h v1⟩
  refine wp_region_tail (fun w' => w'.cell? ⟨g, 2, none⟩ = some (.map (some b)) ∧ w'.cell? ⟨W0.heap.size, 0, none⟩ = some (.int .i64 (i : Int)) ∧ w'.cell? ⟨W0.heap.size, 1, none⟩ = some (.int .i64 (j : Int)) ∧ w'.cell? ⟨w.heap.size, 0, none⟩ = some (.bool m) ∧ w'.cell? ⟨w.heap.size, 1, none⟩ = some (.slice a xs.length c0)) 7 (by kernel_rfl) ?_
  obtain ⟨D1, hD⟩ : ∃ D1, WX.drew = D1 := ⟨_, rfl⟩
  have GB : Hid (Below WX.heap.size WX D1) := by unfold Hid; rw [← hD]; exact (Below.refl _ _).drew
  rw [hD]
  clear hD
  refine wpAnyT_take (i := 0) (oi := { dst := some 44, op := Op.move (Operand.tmp 0), type := 27, pos := "sparse.go:74", after := #[], guard := none }) (v := (.pointer (some ⟨g, 0, none⟩))) rfl (by kernel_rfl) (fun _ _ _ h => h) (Or.inl ⟨by rfl, ?_⟩) (KB.out _ GB.out) ?_
  · intro w hSw
    (try dsimp only at hSw)
    go_simp
  simp only [Act.put, List.setIfInBounds_toArray, List.set_cons_zero, List.set_cons_succ]
  refine wpAnyT_take (i := 1) (oi := { dst := some 45, op := Op.nilCheck (Operand.tmp 44), type := 0, pos := "sparse.go:74", after := #[{ on := 0, ground := Ground.data }], guard := none }) (v := (.pointer (some ⟨g, 0, none⟩))) rfl (by kernel_rfl) (fun _ _ _ h => h) (Or.inl ⟨by rfl, ?_⟩) (KB.out _ GB.out) ?_
  · intro w hSw
    (try dsimp only at hSw)
    go_simp
  simp only [Act.put, List.setIfInBounds_toArray, List.set_cons_zero, List.set_cons_succ]
  refine wpAnyT_take (i := 2) (oi := { dst := some 46, op := Op.fieldAddr 68 (Operand.tmp 45) 2, type := 0, pos := "sparse.go:74", after := #[{ on := 1, ground := Ground.data }], guard := none }) (v := (.pointer (some ⟨g, 2, none⟩))) rfl (by kernel_rfl) (fun _ _ _ h => h) (Or.inl ⟨by rfl, ?_⟩) (KB.out _ GB.out) ?_
  · intro w hSw
    (try dsimp only at hSw)
    go_simp
  simp only [Act.put, List.setIfInBounds_toArray, List.set_cons_zero, List.set_cons_succ]
  refine wpAnyT_take (i := 3) (oi := { dst := some 47, op := Op.load 66 (Operand.tmp 46), type := 66, pos := "sparse.go:74", after := #[{ on := 2, ground := Ground.data }], guard := none }) (v := (.map (some b))) rfl (by kernel_rfl) (fun _ _ _ h => h) (Or.inl ⟨by rfl, ?_⟩) (KB.out _ GB.out) ?_
  · intro w hSw
    (try dsimp only at hSw)
    go_simp
  simp only [Act.put, List.setIfInBounds_toArray, List.set_cons_zero, List.set_cons_succ]
  refine wpAnyT_take (i := 4) (oi := { dst := some 48, op := Op.load 71 (Operand.tmp 9), type := 71, pos := "sparse.go:74", after := #[], guard := none }) (v := (.agg #[.int .i64 (i : Int), .int .i64 (j : Int)])) rfl (by kernel_rfl) (fun _ _ _ h => h) (Or.inl ⟨by rfl, ?_⟩) (KB.out _ GB.out) ?_
  · intro w hSw
    (try dsimp only at hSw)
    go_simp
  simp only [Act.put, List.setIfInBounds_toArray, List.set_cons_zero, List.set_cons_succ]
  refine wpAnyT_take (i := 5) (oi := { dst := some 49, op := Op.load 35 (Operand.tmp 7), type := 35, pos := "sparse.go:74", after := #[], guard := none }) (v := (.agg #[.bool m, .slice a xs.length c0])) rfl (by kernel_rfl) (fun _ _ _ h => h) (Or.inl ⟨by rfl, ?_⟩) (KB.out _ GB.out) ?_
  · intro w hSw
    (try dsimp only at hSw)
    go_simp
  simp only [Act.put, List.setIfInBounds_toArray, List.set_cons_zero, List.set_cons_succ]
  refine wpAnyT_one (i := 6) (o := { dst := some 50, op := Op.call { callee := Callee.value (Operand.func 34), args := #[Operand.tmp 49], argTypes := #[35] }, type := 35, pos := "sparse.go:74", after := #[{ on := 5, ground := Ground.data }], guard := none }) (by kernel_rfl) rfl (fun K hK => ?_)
  go_simp
  go_at_call 34
  refine (least_z (HZX.out.now GB.out)).mono ?_
  rintro e w2 ⟨v, rfl, m1, b⟩
  have lz2 := (show Below _ _ _ from b).size
  replace GB := hid (below_step GB.out b)
  have M1 := hid m1
  clear m1
  clear b
  refine hK.out _ _ (fun _ => KB.out _ GB.out) ?_
  clear hK
  refine wpAnyT_one (i := 7) (o := { dst := some 51, op := Op.call { callee := Callee.value (Operand.func 33), args := #[Operand.tmp 47, Operand.tmp 48, Operand.tmp 50], argTypes := #[66, 71, 35] }, type := 0, pos := "sparse.go:74", after := #[{ on := 3, ground := Ground.data }, { on := 4, ground := Ground.data }, { on := 6, ground := Ground.data }, { on := 6, ground := Ground.chain }], guard := none }) (by kernel_rfl) rfl (fun K hK => ?_)
  go_simp
  go_at_call 33
  refine (put_any (HMX.out.now GB.out) HN.out HO.out M1.out.zi).mono ?_
  rintro e wz ⟨rfl, q1, q2⟩
  have Q1 := hid q1
  have Q2 := hid (grown_low (below_step GX.out GB.out) q2)
  have Q3 := hid q2
  clear q1 q2
  refine hK.out _ _ (fun h => absurd h (by decide)) ?_
  clear hK
  refine wpAnyT_done (by kernel_rfl) ?_ _
  have FIN : Hid (Setd w b n f F (i, j) z k l (.returned (.int .i64 0)) wz) := set_end (HMX.out.now GB.out) HF.out (Cl.of (below_step GX.out GB.out)) Q1.out (M1.out.mono (Nat.zero_le _)) Q2.out Q3.out
  clear Q1 Q2 Q3 M1 GB KB
  go_wp2
  go_ret
  exact FIN.out
set_option maxHeartbeats 3200000 in
theorem set_new {w : World} {g b r c n i j k l : Nat} {f : Nat × Nat → Option Value} {F : Nat → Nat → Int} {v : Value} {z : Int} (h : Gd w g b r c) (hm : Mp spv spok w b f n) (hf : Nm w f F k) (hn : n < maxLen) (hi : i < r) (hj : j < c) (hz : Zi w v z l) (hh : (f (i, j)).isSome = false) (hz0 : z ≠ 0) (hl : n < 4096) :
    Calls Try.prog 10 #[.pointer (some ⟨g, 0, none⟩), .int .i64 (i : Int), .int .i64 (j : Int), v] w (Setd w b n f F (i, j) z k l) := by
  obtain ⟨m, xs, a, c0, rfl, -⟩ := id hz
  obtain ⟨W0, hW⟩ : ∃ W0, w.alloc (duo (.bool m) (.slice a xs.length c0)) = W0 := ⟨_, rfl⟩
  obtain ⟨b0, sz0⟩ := alo1 w (duo (.bool m) (.slice a xs.length c0))
  rw [hW] at b0 sz0
  have PB : Duo W0 w.heap.size (.bool m) (.slice a xs.length c0) := by rw [← hW]; exact heap_alloc_new w _
  have ok : spok (i, j) := ⟨Nat.lt_of_lt_of_le hi h.2.1, Nat.lt_of_lt_of_le hj h.2.2⟩
  have HP := hid (hasPlace_yes (h.now b0) hi hj)
  have EW := hid hW
  -- the place's box
  obtain ⟨V1, hV⟩ : ∃ V1, W0.alloc (.cells #[.int .i64 (i : Int), .int .i64 (j : Int)] 71) = V1 := ⟨_, rfl⟩
  have PS : Cel V1 W0.heap.size 71 [.int .i64 (i : Int), .int .i64 (j : Int)] := by
    rw [← hV]
    exact Cel.new W0 71 [.int .i64 (i : Int), .int .i64 (j : Int)]
  have b1 : Below W0.heap.size W0 V1 := by
    rw [← hV]
    exact (Below.refl _ _).alloc (Nat.le_refl _) _
  have EV := hid hV
  have bw := below_step b0 b1
  have x2 := (h.now bw).1.at (i := 2) rfl
  have s0 := PS.at (i := 0) rfl
  have s1 := PS.at (i := 1) rfl
  obtain ⟨held, hheld⟩ : ∃ held, (f (i, j)).isSome = held := ⟨_, rfl⟩
  obtain ⟨u, hu⟩ : ∃ u, (f (i, j)).getD (.agg #[.bool false, .slice none 0 0]) = u := ⟨_, rfl⟩
  obtain ⟨mu, xu, au, cu, rfl, -⟩ : ∃ n xs a c, u = .agg #[.bool n, .slice a xs.length c] ∧ Mine 0 w (.slice a xs.length c) xs := by
    have := hf.getD i j
    rw [hu] at this
    obtain ⟨n, xs, a, c, e, q, -⟩ := this
    exact ⟨n, xs, a, c, e, q⟩
  have HLK : Hid (∀ w', Below V1.heap.size V1 w' → (Instr.lookup 66 (.map (some b)) (.agg #[.int .i64 (i : Int), .int .i64 (j : Int)]) true).run Try.prog w' = .ok (.tuple #[.agg #[.bool mu, .slice au xu.length cu], .bool held]) w') := fun w' h' => by
    have := ((hm.now bw).now h').look ks10 Try.map10 (zero10 _) ok true
    rw [hu, hheld] at this
    exact this
  generalize xu.length = lu at *
  have HM1 := hid (hm.now bw)
  have HF := hid hf
  have HG := hid (h.now bw)
  have GW := hid bw
  have HZ := hid (hz.now bw)
  have PV1 := hid (PB.step b1)
  have PS1 := hid PS
  have HN := hid hn
  have HO := hid ok
  have HHE := hid hheld
  have HSZ := hid sz0
  clear hf h hm b0 b1 hW hV PB PS hi hj ok hz hn hu hheld bw sz0
  go_enter Try.func10, Try.ntmps10
  go_wp2_with fail
  rw [EW.out]
  refine HP.out.mono ?_
  rintro e w1 ⟨rfl, hw1⟩
  have hw2 := hw1.symm
  subst hw2
  go_wp2_with fail
  rw [EV.out]
  clear EW EV HP
  have KB : Hid (∀ w', Below V1.heap.size V1 w' → w'.cell? ⟨g, 2, none⟩ = some (.map (some b)) ∧ w'.cell? ⟨W0.heap.size, 0, none⟩ = some (.int .i64 (i : Int)) ∧ w'.cell? ⟨W0.heap.size, 1, none⟩ = some (.int .i64 (j : Int)) ∧ (Instr.lookup 66 (.map (some b)) (.agg #[.int .i64 (i : Int), .int .i64 (j : Int)]) true).run Try.prog w' = .ok (.tuple #[.agg #[.bool mu, .slice au lu cu], .bool held]) w') := fun w' h => ⟨cnow h x2, cnow h s0, cnow h s1, HLK.out _ h⟩
  refine wp_region_tail (fun w' => w'.cell? ⟨g, 2, none⟩ = some (.map (some b)) ∧ w'.cell? ⟨W0.heap.size, 0, none⟩ = some (.int .i64 (i : Int)) ∧ w'.cell? ⟨W0.heap.size, 1, none⟩ = some (.int .i64 (j : Int)) ∧ (Instr.lookup 66 (.map (some b)) (.agg #[.int .i64 (i : Int), .int .i64 (j : Int)]) true).run Try.prog w' = .ok (.tuple #[.agg #[.bool mu, .slice au lu cu], .bool held]) w') 11 (by kernel_rfl) ?_
  obtain ⟨D1, hD⟩ : ∃ D1, V1.drew = D1 := ⟨_, rfl⟩
  have GB : Hid (Below V1.heap.size V1 D1) := by unfold Hid; rw [← hD]; exact (Below.refl _ _).drew
  rw [hD]
  clear hD
  have GB0 := hid GB.out
  refine wpAnyT_take (i := 0) (oi := { dst := some 21, op := Op.move (Operand.tmp 0), type := 27, pos := "sparse.go:70", after := #[], guard := none }) (v := (.pointer (some ⟨g, 0, none⟩))) rfl (by kernel_rfl) (fun _ _ _ h => h) (Or.inl ⟨by rfl, ?_⟩) (KB.out _ GB.out) ?_
  · intro w hSw
    (try dsimp only at hSw)
    go_simp
  simp only [Act.put, List.setIfInBounds_toArray, List.set_cons_zero, List.set_cons_succ]
  refine wpAnyT_take (i := 1) (oi := { dst := some 22, op := Op.nilCheck (Operand.tmp 21), type := 0, pos := "sparse.go:70", after := #[{ on := 0, ground := Ground.data }], guard := none }) (v := (.pointer (some ⟨g, 0, none⟩))) rfl (by kernel_rfl) (fun _ _ _ h => h) (Or.inl ⟨by rfl, ?_⟩) (KB.out _ GB.out) ?_
  · intro w hSw
    (try dsimp only at hSw)
    go_simp
  simp only [Act.put, List.setIfInBounds_toArray, List.set_cons_zero, List.set_cons_succ]
  refine wpAnyT_take (i := 2) (oi := { dst := some 23, op := Op.fieldAddr 68 (Operand.tmp 22) 2, type := 0, pos := "sparse.go:70", after := #[{ on := 1, ground := Ground.data }], guard := none }) (v := (.pointer (some ⟨g, 2, none⟩))) rfl (by kernel_rfl) (fun _ _ _ h => h) (Or.inl ⟨by rfl, ?_⟩) (KB.out _ GB.out) ?_
  · intro w hSw
    (try dsimp only at hSw)
    go_simp
  simp only [Act.put, List.setIfInBounds_toArray, List.set_cons_zero, List.set_cons_succ]
  refine wpAnyT_take (i := 3) (oi := { dst := some 24, op := Op.load 66 (Operand.tmp 23), type := 66, pos := "sparse.go:70", after := #[{ on := 2, ground := Ground.data }], guard := none }) (v := (.map (some b))) rfl (by kernel_rfl) (fun _ _ _ h => h) (Or.inl ⟨by rfl, ?_⟩) (KB.out _ GB.out) ?_
  · intro w hSw
    (try dsimp only at hSw)
    go_simp
  simp only [Act.put, List.setIfInBounds_toArray, List.set_cons_zero, List.set_cons_succ]
  refine wpAnyT_take (i := 4) (oi := { dst := some 25, op := Op.load 71 (Operand.tmp 9), type := 71, pos := "sparse.go:70", after := #[], guard := none }) (v := (.agg #[.int .i64 (i : Int), .int .i64 (j : Int)])) rfl (by kernel_rfl) (fun _ _ _ h => h) (Or.inl ⟨by rfl, ?_⟩) (KB.out _ GB.out) ?_
  · intro w hSw
    (try dsimp only at hSw)
    go_simp
  simp only [Act.put, List.setIfInBounds_toArray, List.set_cons_zero, List.set_cons_succ]
  refine wpAnyT_take (i := 5) (oi := { dst := some 26, op := Op.lookup 66 (Operand.tmp 24) (Operand.tmp 25) true, type := 78, pos := "sparse.go:70", after := #[{ on := 3, ground := Ground.data }, { on := 4, ground := Ground.data }], guard := none }) (v := (.tuple #[(.agg #[.bool mu, .slice au lu cu]), (.bool held)])) rfl (by kernel_rfl) (fun _ _ _ h => h) (Or.inl ⟨by rfl, ?_⟩) (KB.out _ GB.out) ?_
  · intro w hSw
    (try dsimp only at hSw)
    go_simp
  simp only [Act.put, List.setIfInBounds_toArray, List.set_cons_zero, List.set_cons_succ]
  refine wpAnyT_take (i := 6) (oi := { dst := some 20, op := Op.move (Operand.tmp 26), type := 78, pos := "sparse.go:70", after := #[{ on := 5, ground := Ground.data }], guard := none }) (v := (.tuple #[(.agg #[.bool mu, .slice au lu cu]), (.bool held)])) rfl (by kernel_rfl) (fun _ _ _ h => h) (Or.inl ⟨by rfl, ?_⟩) (KB.out _ GB.out) ?_
  · intro w hSw
    (try dsimp only at hSw)
    go_simp
  simp only [Act.put, List.setIfInBounds_toArray, List.set_cons_zero, List.set_cons_succ]
  refine wpAnyT_take (i := 7) (oi := { dst := some 27, op := Op.extract (Operand.tmp 20) 0, type := 35, pos := "sparse.go:70", after := #[{ on := 6, ground := Ground.data }], guard := none }) (v := (.agg #[.bool mu, .slice au lu cu])) rfl (by kernel_rfl) (fun _ _ _ h => h) (Or.inl ⟨by rfl, ?_⟩) (KB.out _ GB.out) ?_
  · intro w hSw
    (try dsimp only at hSw)
    go_simp
  simp only [Act.put, List.setIfInBounds_toArray, List.set_cons_zero, List.set_cons_succ]
  refine wpAnyT_take (i := 8) (oi := { dst := some 28, op := Op.extract (Operand.tmp 20) 1, type := 4, pos := "sparse.go:70", after := #[{ on := 6, ground := Ground.data }, { on := 10, ground := Ground.gcOnly Departure.lateStores }], guard := none }) (v := (.bool held)) rfl (by kernel_rfl) (fun _ _ _ h => h) (Or.inl ⟨by rfl, ?_⟩) (KB.out _ GB.out) ?_
  · intro w hSw
    (try dsimp only at hSw)
    go_simp
  simp only [Act.put, List.setIfInBounds_toArray, List.set_cons_zero, List.set_cons_succ]
  refine wpAnyT_one (i := 9) (o := { dst := some 10, op := Op.alloc 35, type := 0, pos := "sparse.go:70", after := #[], guard := none }) (by kernel_rfl) rfl (fun K hK => ?_)
  go_simp
  obtain ⟨V2, hW⟩ : ∃ V2, D1.alloc zbox = V2 := ⟨_, rfl⟩
  obtain ⟨b, sz2⟩ := alo1 D1 zbox
  rw [hW] at b sz2
  replace GB := hid (below_step GB.out b)
  have PD : Duo V2 D1.heap.size (.bool false) (.slice none 0 0) := by rw [← hW]; exact heap_alloc_new D1 zbox
  have PV := hid PD
  clear PD
  rw [hW]
  clear hW b
  refine hK.out _ _ (fun _ => KB.out _ GB.out) ?_
  clear hK
  try simp only [Act.put]
  refine wpAnyT_one (i := 10) (o := { dst := none, op := Op.store 35 (Operand.tmp 10) (Operand.tmp 27), type := 0, pos := "sparse.go:70", after := #[{ on := 9, ground := Ground.data }, { on := 7, ground := Ground.data }, { on := 0, ground := Ground.phase }, { on := 1, ground := Ground.phase }, { on := 2, ground := Ground.phase }, { on := 3, ground := Ground.phase }, { on := 4, ground := Ground.phase }, { on := 5, ground := Ground.phase }, { on := 6, ground := Ground.phase }, { on := 7, ground := Ground.phase }, { on := 8, ground := Ground.textOnly Departure.lateStores }, { on := 9, ground := Ground.phase }], guard := none }) (by kernel_rfl) rfl (fun K hK => ?_)
  have e0 := PV.out.c0
  have e1 := PV.out.c1
  have e2 := PV.out.fz 0
  have e3 := PV.out.fz 1
  go_simp
  clear e0 e1 e2 e3
  obtain ⟨V3, hW⟩ : ∃ V3, ((V2.setCell ⟨D1.heap.size, 0, none⟩ (.bool mu)).setCell ⟨D1.heap.size, 1, none⟩ (.slice au lu cu)) = V3 := ⟨_, rfl⟩
  replace GB : Hid (Below V1.heap.size V1 V3) := by
    unfold Hid
    rw [← hW]
    exact bset (bset GB.out (by have := (show Below _ _ _ from GB0.out).size; omega)) (by have := (show Below _ _ _ from GB0.out).size; omega)
  rw [hW]
  clear hW
  refine hK.out _ _ (fun _ => KB.out _ GB.out) ?_
  clear hK
  try simp only [Act.put]
  refine wpAnyT_one (i := 11) (o := { dst := some 11, op := Op.assign (Operand.tmp 28), type := 4, pos := "sparse.go:70", after := #[{ on := 8, ground := Ground.data }, { on := 10, ground := Ground.chain }, { on := 0, ground := Ground.phase }, { on := 1, ground := Ground.phase }, { on := 2, ground := Ground.phase }, { on := 3, ground := Ground.phase }, { on := 4, ground := Ground.phase }, { on := 5, ground := Ground.phase }, { on := 6, ground := Ground.phase }, { on := 7, ground := Ground.phase }, { on := 8, ground := Ground.phase }, { on := 9, ground := Ground.phase }, { on := 10, ground := Ground.phase }], guard := none }) (by kernel_rfl) rfl (fun K hK => ?_)
  go_simp
  refine hK.out _ _ (fun h => absurd h (by decide)) ?_
  clear hK
  try simp only [Act.put]
  refine wpAnyT_done (by kernel_rfl) ?_ _
  have GV := hid (below_step GW.out GB.out)
  have HM2 := hid (HM1.out.now GB.out)
  have HG2 := hid (HG.out.now GB.out)
  have HZ2 := hid (HZ.out.now GB.out)
  have PV2 := hid (PV1.out.step GB.out)
  have PS2 := hid (PS1.out.step GB.out)
  clear HLK KB x2 s0 s1 HM1 HG HZ PV1 PS1 GB GB0 PV GW
  have hh2 := HHE.out.symm.trans hh
  subst hh2
  have HS := hid (sign_z HZ2.out)
  have v0 := PV2.out.c0
  have v1 := PV2.out.c1
  clear hh HHE
  go_wp2_with fail
  refine HS.out.mono ?_
  rintro e WY ⟨rfl, bY⟩
  replace GV := hid (below_step GV.out bY)
  replace HM2 := hid (HM2.out.now bY)
  replace HG2 := hid (HG2.out.now bY)
  replace HZ2 := hid (HZ2.out.now bY)
  replace PV2 := hid (PV2.out.step bY)
  replace PS2 := hid (PS2.out.step bY)
  clear HS v0 v1 bY
  have hs0 : (cmpI z 0 != 0) = true := by
    unfold cmpI
    split <;> rename_i h <;> simp <;> omega
  generalize cmpI z 0 = S at *
  have x2 := HG2.out.1.at (i := 2) rfl
  have hnn : decide ((4096 : Int) ≤ (n : Int)) = false := decide_eq_false (by omega)
  have HNL := hid hl
  have HZZ := hid hz0
  clear hl hz0
  have hl := fun ty => HM2.out.len Try.map10 ty
  go_wp2_with fail
  clear hs0 x2 hl hnn
  obtain ⟨WX, hWX⟩ : ∃ WX, WY = WX := ⟨_, rfl⟩
  rw [hWX] at GV HM2 HG2 HZ2 PV2 PS2
  rw [hWX]
  clear hWX
  have GX := hid GV.out
  have HMX := hid HM2.out
  have HZX := hid HZ2.out
  have z2 := HG2.out.1.at (i := 2) rfl
  have t0 := PS2.out.at (i := 0) rfl
  have t1 := PS2.out.at (i := 1) rfl
  have v0 := PV2.out.c0
  have v1 := PV2.out.c1
  clear GV HM2 HG2 HZ2 PV2 PS2
  have KB : Hid (∀ w', Below WX.heap.size WX w' → w'.cell? ⟨g, 2, none⟩ = some (.map (some b)) ∧ w'.cell? ⟨W0.heap.size, 0, none⟩ = some (.int .i64 (i : Int)) ∧ w'.cell? ⟨W0.heap.size, 1, none⟩ = some (.int .i64 (j : Int)) ∧ w'.cell? ⟨w.heap.size, 0, none⟩ = some (.bool m) ∧ w'.cell? ⟨w.heap.size, 1, none⟩ = some (.slice a xs.length c0)) := fun w' h => ⟨cnow h z2, cnow h t0, cnow h t1, cnow h v0, cnow h v1⟩
  refine wp_region_tail (fun w' => w'.cell? ⟨g, 2, none⟩ = some (.map (some b)) ∧ w'.cell? ⟨W0.heap.size, 0, none⟩ = some (.int .i64 (i : Int)) ∧ w'.cell? ⟨W0.heap.size, 1, none⟩ = some (.int .i64 (j : Int)) ∧ w'.cell? ⟨w.heap.size, 0, none⟩ = some (.bool m) ∧ w'.cell? ⟨w.heap.size, 1, none⟩ = some (.slice a xs.length c0)) 7 (by kernel_rfl) ?_
  obtain ⟨D1, hD⟩ : ∃ D1, WX.drew = D1 := ⟨_, rfl⟩
  have GB : Hid (Below WX.heap.size WX D1) := by unfold Hid; rw [← hD]; exact (Below.refl _ _).drew
  rw [hD]
  clear hD
  refine wpAnyT_take (i := 0) (oi := { dst := some 44, op := Op.move (Operand.tmp 0), type := 27, pos := "sparse.go:74", after := #[], guard := none }) (v := (.pointer (some ⟨g, 0, none⟩))) rfl (by kernel_rfl) (fun _ _ _ h => h) (Or.inl ⟨by rfl, ?_⟩) (KB.out _ GB.out) ?_
  · intro w hSw
    (try dsimp only at hSw)
    go_simp
  simp only [Act.put, List.setIfInBounds_toArray, List.set_cons_zero, List.set_cons_succ]
  refine wpAnyT_take (i := 1) (oi := { dst := some 45, op := Op.nilCheck (Operand.tmp 44), type := 0, pos := "sparse.go:74", after := #[{ on := 0, ground := Ground.data }], guard := none }) (v := (.pointer (some ⟨g, 0, none⟩))) rfl (by kernel_rfl) (fun _ _ _ h => h) (Or.inl ⟨by rfl, ?_⟩) (KB.out _ GB.out) ?_
  · intro w hSw
    (try dsimp only at hSw)
    go_simp
  simp only [Act.put, List.setIfInBounds_toArray, List.set_cons_zero, List.set_cons_succ]
  refine wpAnyT_take (i := 2) (oi := { dst := some 46, op := Op.fieldAddr 68 (Operand.tmp 45) 2, type := 0, pos := "sparse.go:74", after := #[{ on := 1, ground := Ground.data }], guard := none }) (v := (.pointer (some ⟨g, 2, none⟩))) rfl (by kernel_rfl) (fun _ _ _ h => h) (Or.inl ⟨by rfl, ?_⟩) (KB.out _ GB.out) ?_
  · intro w hSw
    (try dsimp only at hSw)
    go_simp
  simp only [Act.put, List.setIfInBounds_toArray, List.set_cons_zero, List.set_cons_succ]
  refine wpAnyT_take (i := 3) (oi := { dst := some 47, op := Op.load 66 (Operand.tmp 46), type := 66, pos := "sparse.go:74", after := #[{ on := 2, ground := Ground.data }], guard := none }) (v := (.map (some b))) rfl (by kernel_rfl) (fun _ _ _ h => h) (Or.inl ⟨by rfl, ?_⟩) (KB.out _ GB.out) ?_
  · intro w hSw
    (try dsimp only at hSw)
    go_simp
  simp only [Act.put, List.setIfInBounds_toArray, List.set_cons_zero, List.set_cons_succ]
  refine wpAnyT_take (i := 4) (oi := { dst := some 48, op := Op.load 71 (Operand.tmp 9), type := 71, pos := "sparse.go:74", after := #[], guard := none }) (v := (.agg #[.int .i64 (i : Int), .int .i64 (j : Int)])) rfl (by kernel_rfl) (fun _ _ _ h => h) (Or.inl ⟨by rfl, ?_⟩) (KB.out _ GB.out) ?_
  · intro w hSw
    (try dsimp only at hSw)
    go_simp
  simp only [Act.put, List.setIfInBounds_toArray, List.set_cons_zero, List.set_cons_succ]
  refine wpAnyT_take (i := 5) (oi := { dst := some 49, op := Op.load 35 (Operand.tmp 7), type := 35, pos := "sparse.go:74", after := #[], guard := none }) (v := (.agg #[.bool m, .slice a xs.length c0])) rfl (by kernel_rfl) (fun _ _ _ h => h) (Or.inl ⟨by rfl, ?_⟩) (KB.out _ GB.out) ?_
  · intro w hSw
    (try dsimp only at hSw)
    go_simp
  simp only [Act.put, List.setIfInBounds_toArray, List.set_cons_zero, List.set_cons_succ]
  refine wpAnyT_one (i := 6) (o := { dst := some 50, op := Op.call { callee := Callee.value (Operand.func 34), args := #[Operand.tmp 49], argTypes := #[35] }, type := 35, pos := "sparse.go:74", after := #[{ on := 5, ground := Ground.data }], guard := none }) (by kernel_rfl) rfl (fun K hK => ?_)
  go_simp
  go_at_call 34
  refine (least_z (HZX.out.now GB.out)).mono ?_
  rintro e w2 ⟨v, rfl, m1, b⟩
  have lz2 := (show Below _ _ _ from b).size
  replace GB := hid (below_step GB.out b)
  have M1 := hid m1
  clear m1
  clear b
  refine hK.out _ _ (fun _ => KB.out _ GB.out) ?_
  clear hK
  refine wpAnyT_one (i := 7) (o := { dst := some 51, op := Op.call { callee := Callee.value (Operand.func 33), args := #[Operand.tmp 47, Operand.tmp 48, Operand.tmp 50], argTypes := #[66, 71, 35] }, type := 0, pos := "sparse.go:74", after := #[{ on := 3, ground := Ground.data }, { on := 4, ground := Ground.data }, { on := 6, ground := Ground.data }, { on := 6, ground := Ground.chain }], guard := none }) (by kernel_rfl) rfl (fun K hK => ?_)
  go_simp
  go_at_call 33
  refine (put_any (HMX.out.now GB.out) HN.out HO.out M1.out.zi).mono ?_
  rintro e wz ⟨rfl, q1, q2⟩
  have Q1 := hid q1
  have Q2 := hid (grown_low (below_step GX.out GB.out) q2)
  have Q3 := hid q2
  clear q1 q2
  refine hK.out _ _ (fun h => absurd h (by decide)) ?_
  clear hK
  refine wpAnyT_done (by kernel_rfl) ?_ _
  have FIN : Hid (Setd w b n f F (i, j) z k l (.returned (.int .i64 0)) wz) := set_end (HMX.out.now GB.out) HF.out (Cl.of (below_step GX.out GB.out)) Q1.out (M1.out.mono (Nat.zero_le _)) Q2.out Q3.out
  clear Q1 Q2 Q3 M1 GB KB
  go_wp2
  go_ret
  exact FIN.out
end Go.Proofs.Ytachdicdfhfoaaa
