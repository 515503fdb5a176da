/-
 Do11: what a step does to a sheet: a swap.
-/
import Derived.Test.YtnpcfohimlfbdaaGreatQSh11ToChkN9
import Derived.Test.YtnpcfohimlfbdaaGreatQFil9ToDot9
import Derived.Test.YtnpcfohimlfbdaaGreatQZFloorToTy9
set_option maxRecDepth 100000
set_option maxHeartbeats 6400000
set_option linter.unusedVariables false
set_option linter.unusedSimpArgs false
namespace Go.Proofs.YtnpcfohimlfbdaaGreat
open Go.RowKit

/-- Behind a step. -/
def Dn (B : Nat) (w : World) (lv : Value) (c : Nat) (m : List (List Int)) (k : Nat) (e : Ending) (w' : World) : Prop := ∃ gs, e = .returned (.tuple #[]) ∧ Sht B w' lv c gs m k ∧ Below B w w' ∧ Kw w w'
theorem Sht.size {B c k : Nat} {w : World} {lv : Value} {gs : List Nat} {m : List (List Int)} (h : Sht B w lv c gs m k) (hm : 0 < m.length) : B ≤ w.heap.size := by
 obtain ⟨a, cap, _, _, hL⟩ := h.form
 obtain ⟨L, _, h1, h2⟩ := hL hm
 omega
theorem Sht.lineZ {B c k L n cap i g : Nat} {w : World} {gs : List Nat} {m : List (List Int)} (h : Sht B w (.slice (some ⟨L, 0, none⟩) n cap) c gs m k) (hn : m.length = n) (hg : gs[i]? = some g) : w.cell? ⟨L, i, none⟩ = some (.slice (some ⟨g, 0, none⟩) c c) ∧ w.frozen? ⟨L, i, none⟩ = false := by
 subst hn
 exact h.line hg
theorem Sht.lineT {B c k L n cap i j a b : Nat} {w : World} {gs : List Nat} {m : List (List Int)} (h : Sht B w (.slice (some ⟨L, 0, none⟩) n cap) c gs m k) (hn : m.length = n) (ha : gs[i]? = some a) (hb : gs[j]? = some b) :
  (w.setCell ⟨L, i, none⟩ (.slice (some ⟨b, 0, none⟩) c c)).cell? ⟨L, j, none⟩ = some (.slice (some ⟨b, 0, none⟩) c c) ∧ (w.setCell ⟨L, i, none⟩ (.slice (some ⟨b, 0, none⟩) c c)).frozen? ⟨L, j, none⟩ = false := by
 subst hn
 obtain ⟨h1, h2, h3, h4, h5, h6⟩ := h
 rw [← h3] at h1
 obtain ⟨o1, g1⟩ := h1.stored i (.slice (some ⟨b, 0, none⟩) c c)
 have hi : i < gs.length := (List.getElem?_eq_some_iff.1 ha).1
 have hj : j < gs.length := (List.getElem?_eq_some_iff.1 hb).1
 refine ⟨?_, o1.frozenAt j⟩
 rw [o1.cellAt j (by omega)]
 by_cases q : i = j
 ·subst q; simp [hi]
 ·rw [List.getElem?_set_ne q]; simp [hb, rowv]
theorem do_swap {B c k i j : Nat} {w : World} {lv : Value} {gs : List Nat} {m : List (List Int)} (h : Sht B w lv c gs m k) (hi : i < m.length) (hj : j < m.length) :
  Calls Tryz.prog 138 #[.agg #[.int .i64 (i : Int), .int .i64 (j : Int)], lv] w (Dn B w lv c ((St.swap i j).run m) k) := by
 have hB := h.size (by omega)
 obtain ⟨W0, hW⟩ : ∃ W0, w.alloc (.cells #[.int .i64 (i : Int), .int .i64 (j : Int)] 115) = W0 := ⟨_, rfl⟩
 obtain ⟨b0, sz0⟩ := alo1 w (.cells #[.int .i64 (i : Int), .int .i64 (j : Int)] 115)
 rw [hW] at b0 sz0
 have P1 : Hid (Cel W0 w.heap.size 115 [.int .i64 (i : Int), .int .i64 (j : Int)]) := by unfold Hid; rw [← hW]; exact Cel.new w _ _
 obtain ⟨a, cap, rfl, hcap, hL⟩ := h.form
 obtain ⟨L, rfl, hBL, hLs⟩ := hL (by omega)
 have S0 := hid (h.now b0)
 obtain ⟨ga, hga, -⟩ := h.blk hi
 obtain ⟨gb, hgb, -⟩ := h.blk hj
 have la := hid (S0.out.lineZ rfl hga)
 have lb := hid (S0.out.lineZ rfl hgb)
 have KK := hid (Kw.of b0)
 have BB := hid (b0.mono hB)
 have HB0 : Hid (B ≤ W0.heap.size) := by unfold Hid; omega
 have HNL : Hid (w.heap.size ≠ L) := by unfold Hid; omega
 have GA := hid hga
 have GB' := hid hgb
 have ii : (i : Int) < (m.length : Int) := by omega
 have jj : (j : Int) < (m.length : Int) := by omega
 have y0 := P1.out.at (i := 0) rfl
 have y1 := P1.out.at (i := 1) rfl
 obtain ⟨n, hn⟩ : ∃ n, m.length = n := ⟨_, rfl⟩
 rw [hn] at S0 ii jj hcap ⊢
 have HN := hid hn
 have EW := hid hW
 clear h b0 sz0 hW hL hga hgb hi hj hn hBL hLs hB
 go_enter Tryz.func138, Tryz.ntmps138
 go_wp2_with fail
 rw [EW.out]
 clear EW
 have KB : Hid (∀ w', Below W0.heap.size W0 w' → w'.cell? ⟨w.heap.size, 0, none⟩ = some (.int .i64 (i : Int)) ∧ w'.cell? ⟨w.heap.size, 1, none⟩ = some (.int .i64 (j : Int))) := fun w' h => ⟨cnow h y0, cnow h y1⟩
 refine wp_region_tail (fun w' => w'.cell? ⟨w.heap.size, 0, none⟩ = some (.int .i64 (i : Int)) ∧ w'.cell? ⟨w.heap.size, 1, none⟩ = some (.int .i64 (j : Int))) 18 (by kernel_rfl) ?_
 obtain ⟨D1, hD⟩ : ∃ D1, W0.drew = D1 := ⟨_, rfl⟩
 have GB : Hid (Below W0.heap.size W0 D1) := by unfold Hid; rw [← hD]; exact (Below.refl _ _).drew
 rw [hD]
 clear hD
 refine wpAnyT_take (i := 0) (oi := { dst := some 4, op := Op.move (Operand.tmp 1), type := 63, pos := "kinds.go:38", after := #[], guard := none }) (v := (.slice (some ⟨L, 0, none⟩) n cap)) rfl (by kernel_rfl) (fun _ _ _ h => h) (Or.inl ⟨by rfl, ?_⟩) (KB.out _ GB.out) ?_
 ·intro w hSw
  (try dsimp only at hSw)
  go_simp
 simp only [Act.put, List.setIfInBounds_toArray, List.set_cons_zero, List.set_cons_succ]
 refine wpAnyT_take (i := 1) (oi := { dst := some 5, op := Op.fieldAddr 115 (Operand.tmp 2) 0, type := 0, pos := "kinds.go:38", after := #[], guard := none }) (v := (.pointer (some ⟨w.heap.size, 0, none⟩))) rfl (by kernel_rfl) (fun _ _ _ h => h) (Or.inl ⟨by rfl, ?_⟩) (KB.out _ GB.out) ?_
 ·intro w hSw
  (try dsimp only at hSw)
  go_simp
 simp only [Act.put, List.setIfInBounds_toArray, List.set_cons_zero, List.set_cons_succ]
 refine wpAnyT_take (i := 2) (oi := { dst := some 6, op := Op.load 3 (Operand.tmp 5), type := 3, pos := "kinds.go:38", after := #[{ on := 1, ground := Ground.data }], guard := none }) (v := (.int .i64 (i : Int))) rfl (by kernel_rfl) (fun _ _ _ h => h) (Or.inl ⟨by rfl, ?_⟩) (KB.out _ GB.out) ?_
 ·intro w hSw
  (try dsimp only at hSw)
  go_simp
 simp only [Act.put, List.setIfInBounds_toArray, List.set_cons_zero, List.set_cons_succ]
 refine wpAnyT_take (i := 3) (oi := { dst := some 7, op := Op.move (Operand.tmp 1), type := 63, pos := "kinds.go:38", after := #[{ on := 17, ground := Ground.gcOnly Departure.lateStores }], guard := none }) (v := (.slice (some ⟨L, 0, none⟩) n cap)) rfl (by kernel_rfl) (fun _ _ _ h => h) (Or.inl ⟨by rfl, ?_⟩) (KB.out _ GB.out) ?_
 ·intro w hSw
  (try dsimp only at hSw)
  go_simp
 simp only [Act.put, List.setIfInBounds_toArray, List.set_cons_zero, List.set_cons_succ]
 refine wpAnyT_take (i := 4) (oi := { dst := some 8, op := Op.fieldAddr 115 (Operand.tmp 2) 1, type := 0, pos := "kinds.go:38", after := #[{ on := 17, ground := Ground.gcOnly Departure.lateStores }], guard := none }) (v := (.pointer (some ⟨w.heap.size, 1, none⟩))) rfl (by kernel_rfl) (fun _ _ _ h => h) (Or.inl ⟨by rfl, ?_⟩) (KB.out _ GB.out) ?_
 ·intro w hSw
  (try dsimp only at hSw)
  go_simp
 simp only [Act.put, List.setIfInBounds_toArray, List.set_cons_zero, List.set_cons_succ]
 refine wpAnyT_take (i := 5) (oi := { dst := some 9, op := Op.load 3 (Operand.tmp 8), type := 3, pos := "kinds.go:38", after := #[{ on := 4, ground := Ground.data }, { on := 17, ground := Ground.gcOnly Departure.lateStores }], guard := none }) (v := (.int .i64 (j : Int))) rfl (by kernel_rfl) (fun _ _ _ h => h) (Or.inl ⟨by rfl, ?_⟩) (KB.out _ GB.out) ?_
 ·intro w hSw
  (try dsimp only at hSw)
  go_simp
 simp only [Act.put, List.setIfInBounds_toArray, List.set_cons_zero, List.set_cons_succ]
 refine wpAnyT_take (i := 6) (oi := { dst := some 10, op := Op.move (Operand.tmp 1), type := 63, pos := "kinds.go:38", after := #[], guard := none }) (v := (.slice (some ⟨L, 0, none⟩) n cap)) rfl (by kernel_rfl) (fun _ _ _ h => h) (Or.inl ⟨by rfl, ?_⟩) (KB.out _ GB.out) ?_
 ·intro w hSw
  (try dsimp only at hSw)
  go_simp
 simp only [Act.put, List.setIfInBounds_toArray, List.set_cons_zero, List.set_cons_succ]
 refine wpAnyT_take (i := 7) (oi := { dst := some 11, op := Op.fieldAddr 115 (Operand.tmp 2) 1, type := 0, pos := "kinds.go:38", after := #[], guard := none }) (v := (.pointer (some ⟨w.heap.size, 1, none⟩))) rfl (by kernel_rfl) (fun _ _ _ h => h) (Or.inl ⟨by rfl, ?_⟩) (KB.out _ GB.out) ?_
 ·intro w hSw
  (try dsimp only at hSw)
  go_simp
 simp only [Act.put, List.setIfInBounds_toArray, List.set_cons_zero, List.set_cons_succ]
 refine wpAnyT_take (i := 8) (oi := { dst := some 12, op := Op.load 3 (Operand.tmp 11), type := 3, pos := "kinds.go:38", after := #[{ on := 7, ground := Ground.data }], guard := none }) (v := (.int .i64 (j : Int))) rfl (by kernel_rfl) (fun _ _ _ h => h) (Or.inl ⟨by rfl, ?_⟩) (KB.out _ GB.out) ?_
 ·intro w hSw
  (try dsimp only at hSw)
  go_simp
 simp only [Act.put, List.setIfInBounds_toArray, List.set_cons_zero, List.set_cons_succ]
 refine wpAnyT_take (i := 9) (oi := { dst := some 13, op := Op.indexAddr 63 (Operand.tmp 10) (Operand.tmp 12), type := 0, pos := "kinds.go:38", after := #[{ on := 6, ground := Ground.data }, { on := 8, ground := Ground.data }], guard := none }) (v := (.pointer (some ⟨L, j, none⟩))) rfl (by kernel_rfl) (fun _ _ _ h => h) (Or.inl ⟨by rfl, ?_⟩) (KB.out _ GB.out) ?_
 ·intro w hSw
  (try dsimp only at hSw)
  go_simp
 simp only [Act.put, List.setIfInBounds_toArray, List.set_cons_zero, List.set_cons_succ]
 refine wpAnyT_take (i := 11) (oi := { dst := some 15, op := Op.move (Operand.tmp 1), type := 63, pos := "kinds.go:38", after := #[], guard := none }) (v := (.slice (some ⟨L, 0, none⟩) n cap)) rfl (by kernel_rfl) (fun _ _ _ h => h) (Or.inl ⟨by rfl, ?_⟩) (KB.out _ GB.out) ?_
 ·intro w hSw
  (try dsimp only at hSw)
  go_simp
 simp only [Act.put, List.setIfInBounds_toArray, List.set_cons_zero, List.set_cons_succ]
 refine wpAnyT_take (i := 12) (oi := { dst := some 16, op := Op.fieldAddr 115 (Operand.tmp 2) 0, type := 0, pos := "kinds.go:38", after := #[], guard := none }) (v := (.pointer (some ⟨w.heap.size, 0, none⟩))) rfl (by kernel_rfl) (fun _ _ _ h => h) (Or.inl ⟨by rfl, ?_⟩) (KB.out _ GB.out) ?_
 ·intro w hSw
  (try dsimp only at hSw)
  go_simp
 simp only [Act.put, List.setIfInBounds_toArray, List.set_cons_zero, List.set_cons_succ]
 refine wpAnyT_take (i := 13) (oi := { dst := some 17, op := Op.load 3 (Operand.tmp 16), type := 3, pos := "kinds.go:38", after := #[{ on := 12, ground := Ground.data }], guard := none }) (v := (.int .i64 (i : Int))) rfl (by kernel_rfl) (fun _ _ _ h => h) (Or.inl ⟨by rfl, ?_⟩) (KB.out _ GB.out) ?_
 ·intro w hSw
  (try dsimp only at hSw)
  go_simp
 simp only [Act.put, List.setIfInBounds_toArray, List.set_cons_zero, List.set_cons_succ]
 refine wpAnyT_take (i := 14) (oi := { dst := some 18, op := Op.indexAddr 63 (Operand.tmp 15) (Operand.tmp 17), type := 0, pos := "kinds.go:38", after := #[{ on := 11, ground := Ground.data }, { on := 13, ground := Ground.data }], guard := none }) (v := (.pointer (some ⟨L, i, none⟩))) rfl (by kernel_rfl) (fun _ _ _ h => h) (Or.inl ⟨by rfl, ?_⟩) (KB.out _ GB.out) ?_
 ·intro w hSw
  (try dsimp only at hSw)
  go_simp
 simp only [Act.put, List.setIfInBounds_toArray, List.set_cons_zero, List.set_cons_succ]
 refine wpAnyT_two (i := 10) (j := 15) (oi := { dst := some 14, op := Op.load 22 (Operand.tmp 13), type := 22, pos := "kinds.go:38", after := #[{ on := 9, ground := Ground.data }], guard := none }) (oj := { dst := some 19, op := Op.load 22 (Operand.tmp 18), type := 22, pos := "kinds.go:38", after := #[{ on := 14, ground := Ground.data }], guard := none }) (by kernel_rfl) rfl rfl (fun K hK => ?_) (fun K hK => ?_)
 ·skip
  have q0 := cnow GB.out lb.out.1
  go_simp
  clear q0
  refine hK.out _ _ (fun _ => KB.out _ GB.out) ?_
  clear hK
  try simp only [Act.put]
  refine wpAnyT_one (i := 15) (o := { dst := some 19, op := Op.load 22 (Operand.tmp 18), type := 22, pos := "kinds.go:38", after := #[{ on := 14, ground := Ground.data }], guard := none }) (by kernel_rfl) rfl (fun K hK => ?_)
  have q0 := cnow GB.out la.out.1
  go_simp
  clear q0
  refine hK.out _ _ (fun _ => KB.out _ GB.out) ?_
  clear hK
  try simp only [Act.put]
  refine wpAnyT_take (i := 16) (oi := { dst := some 20, op := Op.indexAddr 63 (Operand.tmp 4) (Operand.tmp 6), type := 0, pos := "kinds.go:38", after := #[{ on := 0, ground := Ground.data }, { on := 2, ground := Ground.data }, { on := 0, ground := Ground.phase }, { on := 1, ground := Ground.phase }, { on := 2, ground := Ground.phase }, { on := 3, ground := Ground.textOnly Departure.lateStores }, { on := 4, ground := Ground.textOnly Departure.lateStores }, { on := 5, ground := Ground.textOnly Departure.lateStores }, { on := 6, ground := Ground.phase }, { on := 7, ground := Ground.phase }, { on := 8, ground := Ground.phase }, { on := 9, ground := Ground.phase }, { on := 10, ground := Ground.phase }, { on := 11, ground := Ground.textOnly Departure.lateStores }, { on := 12, ground := Ground.textOnly Departure.lateStores }, { on := 13, ground := Ground.textOnly Departure.lateStores }, { on := 14, ground := Ground.textOnly Departure.lateStoresUnsure }, { on := 15, ground := Ground.phase }], guard := none }) (v := (.pointer (some ⟨L, i, none⟩))) rfl (by kernel_rfl) (fun _ _ _ h => h) (Or.inl ⟨by rfl, ?_⟩) (KB.out _ GB.out) ?_
  ·intro w hSw
   (try dsimp only at hSw)
   go_simp
  simp only [Act.put, List.setIfInBounds_toArray, List.set_cons_zero, List.set_cons_succ]
  refine wpAnyT_one (i := 17) (o := { dst := none, op := Op.store 22 (Operand.tmp 20) (Operand.tmp 14), type := 0, pos := "kinds.go:38", after := #[{ on := 16, ground := Ground.data }, { on := 10, ground := Ground.data }, { on := 0, ground := Ground.phase }, { on := 1, ground := Ground.phase }, { on := 2, ground := Ground.phase }, { on := 3, ground := Ground.textOnly Departure.lateStores }, { on := 4, ground := Ground.textOnly Departure.lateStores }, { on := 5, ground := Ground.textOnly Departure.lateStores }, { on := 6, ground := Ground.phase }, { on := 7, ground := Ground.phase }, { on := 8, ground := Ground.phase }, { on := 9, ground := Ground.phase }, { on := 10, ground := Ground.phase }, { on := 11, ground := Ground.textOnly Departure.lateStores }, { on := 12, ground := Ground.textOnly Departure.lateStores }, { on := 13, ground := Ground.textOnly Departure.lateStores }, { on := 14, ground := Ground.textOnly Departure.lateStoresUnsure }, { on := 15, ground := Ground.phase }], guard := none }) (by kernel_rfl) rfl (fun K hK => ?_)
  have c0 := cnow GB.out la.out.1
  have f0 := ((S0.out.now GB.out).lineZ HN.out GA.out).2
  go_simp
  clear c0 f0
  obtain ⟨V2, hW⟩ : ∃ V2, (D1.setCell ⟨L, i, none⟩ (.slice (some ⟨gb, 0, none⟩) c c)) = V2 := ⟨_, rfl⟩
  have e0 : V2.cell? ⟨w.heap.size, 0, none⟩ = some (.int .i64 (i : Int)) := by rw [← hW]; exact (World.cell?_setCell_other _ _ _ _ (fun q => HNL.out (by simpa using (congrArg Addr.block q).symm))).trans (cnow GB.out y0)
  have e1 : V2.cell? ⟨w.heap.size, 1, none⟩ = some (.int .i64 (j : Int)) := by rw [← hW]; exact (World.cell?_setCell_other _ _ _ _ (fun q => HNL.out (by simpa using (congrArg Addr.block q).symm))).trans (cnow GB.out y1)
  have E17 := hid hW
  rw [hW]
  clear hW
  refine hK.out _ _ (fun _ => ⟨e0, e1⟩) ?_
  clear hK
  try simp only [Act.put]
  refine wpAnyT_one (i := 18) (o := { dst := some 21, op := Op.indexAddr 63 (Operand.tmp 7) (Operand.tmp 9), type := 0, pos := "kinds.go:38", after := #[{ on := 3, ground := Ground.data }, { on := 5, ground := Ground.data }, { on := 0, ground := Ground.phase }, { on := 1, ground := Ground.phase }, { on := 2, ground := Ground.phase }, { on := 3, ground := Ground.phase }, { on := 4, ground := Ground.phase }, { on := 5, ground := Ground.phase }, { on := 6, ground := Ground.phase }, { on := 7, ground := Ground.phase }, { on := 8, ground := Ground.phase }, { on := 9, ground := Ground.phase }, { on := 10, ground := Ground.phase }, { on := 11, ground := Ground.phase }, { on := 12, ground := Ground.phase }, { on := 13, ground := Ground.phase }, { on := 14, ground := Ground.phase }, { on := 15, ground := Ground.phase }, { on := 16, ground := Ground.phase }, { on := 17, ground := Ground.phase }], guard := none }) (by kernel_rfl) rfl (fun K hK => ?_)
  go_simp
  refine hK.out _ _ (fun h => absurd h (by decide)) ?_
  clear hK
  try simp only [Act.put]
  refine wpAnyT_one (i := 19) (o := { dst := none, op := Op.store 22 (Operand.tmp 21) (Operand.tmp 19), type := 0, pos := "kinds.go:38", after := #[{ on := 18, ground := Ground.data }, { on := 15, ground := Ground.data }, { on := 17, ground := Ground.chain }, { on := 0, ground := Ground.phase }, { on := 1, ground := Ground.phase }, { on := 2, ground := Ground.phase }, { on := 3, ground := Ground.phase }, { on := 4, ground := Ground.phase }, { on := 5, ground := Ground.phase }, { on := 6, ground := Ground.phase }, { on := 7, ground := Ground.phase }, { on := 8, ground := Ground.phase }, { on := 9, ground := Ground.phase }, { on := 10, ground := Ground.phase }, { on := 11, ground := Ground.phase }, { on := 12, ground := Ground.phase }, { on := 13, ground := Ground.phase }, { on := 14, ground := Ground.phase }, { on := 15, ground := Ground.phase }, { on := 16, ground := Ground.phase }, { on := 17, ground := Ground.phase }], guard := none }) (by kernel_rfl) rfl (fun K hK => ?_)
  have f0 := (S0.out.now GB.out).lineT HN.out GA.out GB'.out
  rw [E17.out] at f0
  obtain ⟨f1, f2⟩ := f0
  go_simp
  clear f1 f2
  obtain ⟨V3, hW⟩ : ∃ V3, (V2.setCell ⟨L, j, none⟩ (.slice (some ⟨ga, 0, none⟩) c c)) = V3 := ⟨_, rfl⟩
  have E19 := hid hW
  rw [hW]
  clear hW
  refine hK.out _ _ (fun h => absurd h (by decide)) ?_
  clear hK
  try simp only [Act.put]
  refine wpAnyT_done (by kernel_rfl) ?_ _
  have FIN : Hid (Dn B w (.slice (some ⟨L, 0, none⟩) n cap) c ((St.swap i j).run m) k (.returned (.tuple #[])) V3) := by
   unfold Hid
   rw [← E19.out, ← E17.out]
   have h := S0.out.now GB.out
   rw [← HN.out] at h ⊢
   obtain ⟨s1, s2, s3⟩ := h.swap GA.out GB'.out
   refine ⟨_, rfl, s1, (BB.out.trans (GB.out.mono HB0.out)).trans s2, (KK.out.trans (Kw.of GB.out)).trans s3⟩
  clear la lb S0 KK BB GA GB' GB P1 E17 E19 HN HNL KB e0 e1 y0 y1
  go_wp2
  go_end0
  exact FIN.out
 ·skip
  have q0 := cnow GB.out la.out.1
  go_simp
  clear q0
  refine hK.out _ _ (fun _ => KB.out _ GB.out) ?_
  clear hK
  try simp only [Act.put]
  refine wpAnyT_one (i := 10) (o := { dst := some 14, op := Op.load 22 (Operand.tmp 13), type := 22, pos := "kinds.go:38", after := #[{ on := 9, ground := Ground.data }], guard := none }) (by kernel_rfl) rfl (fun K hK => ?_)
  have q0 := cnow GB.out lb.out.1
  go_simp
  clear q0
  refine hK.out _ _ (fun _ => KB.out _ GB.out) ?_
  clear hK
  try simp only [Act.put]
  refine wpAnyT_take (i := 16) (oi := { dst := some 20, op := Op.indexAddr 63 (Operand.tmp 4) (Operand.tmp 6), type := 0, pos := "kinds.go:38", after := #[{ on := 0, ground := Ground.data }, { on := 2, ground := Ground.data }, { on := 0, ground := Ground.phase }, { on := 1, ground := Ground.phase }, { on := 2, ground := Ground.phase }, { on := 3, ground := Ground.textOnly Departure.lateStores }, { on := 4, ground := Ground.textOnly Departure.lateStores }, { on := 5, ground := Ground.textOnly Departure.lateStores }, { on := 6, ground := Ground.phase }, { on := 7, ground := Ground.phase }, { on := 8, ground := Ground.phase }, { on := 9, ground := Ground.phase }, { on := 10, ground := Ground.phase }, { on := 11, ground := Ground.textOnly Departure.lateStores }, { on := 12, ground := Ground.textOnly Departure.lateStores }, { on := 13, ground := Ground.textOnly Departure.lateStores }, { on := 14, ground := Ground.textOnly Departure.lateStoresUnsure }, { on := 15, ground := Ground.phase }], guard := none }) (v := (.pointer (some ⟨L, i, none⟩))) rfl (by kernel_rfl) (fun _ _ _ h => h) (Or.inl ⟨by rfl, ?_⟩) (KB.out _ GB.out) ?_
  ·intro w hSw
   (try dsimp only at hSw)
   go_simp
  simp only [Act.put, List.setIfInBounds_toArray, List.set_cons_zero, List.set_cons_succ]
  refine wpAnyT_one (i := 17) (o := { dst := none, op := Op.store 22 (Operand.tmp 20) (Operand.tmp 14), type := 0, pos := "kinds.go:38", after := #[{ on := 16, ground := Ground.data }, { on := 10, ground := Ground.data }, { on := 0, ground := Ground.phase }, { on := 1, ground := Ground.phase }, { on := 2, ground := Ground.phase }, { on := 3, ground := Ground.textOnly Departure.lateStores }, { on := 4, ground := Ground.textOnly Departure.lateStores }, { on := 5, ground := Ground.textOnly Departure.lateStores }, { on := 6, ground := Ground.phase }, { on := 7, ground := Ground.phase }, { on := 8, ground := Ground.phase }, { on := 9, ground := Ground.phase }, { on := 10, ground := Ground.phase }, { on := 11, ground := Ground.textOnly Departure.lateStores }, { on := 12, ground := Ground.textOnly Departure.lateStores }, { on := 13, ground := Ground.textOnly Departure.lateStores }, { on := 14, ground := Ground.textOnly Departure.lateStoresUnsure }, { on := 15, ground := Ground.phase }], guard := none }) (by kernel_rfl) rfl (fun K hK => ?_)
  have c0 := cnow GB.out la.out.1
  have f0 := ((S0.out.now GB.out).lineZ HN.out GA.out).2
  go_simp
  clear c0 f0
  obtain ⟨V4, hW⟩ : ∃ V4, (D1.setCell ⟨L, i, none⟩ (.slice (some ⟨gb, 0, none⟩) c c)) = V4 := ⟨_, rfl⟩
  have e0 : V4.cell? ⟨w.heap.size, 0, none⟩ = some (.int .i64 (i : Int)) := by rw [← hW]; exact (World.cell?_setCell_other _ _ _ _ (fun q => HNL.out (by simpa using (congrArg Addr.block q).symm))).trans (cnow GB.out y0)
  have e1 : V4.cell? ⟨w.heap.size, 1, none⟩ = some (.int .i64 (j : Int)) := by rw [← hW]; exact (World.cell?_setCell_other _ _ _ _ (fun q => HNL.out (by simpa using (congrArg Addr.block q).symm))).trans (cnow GB.out y1)
  have E17 := hid hW
  rw [hW]
  clear hW
  refine hK.out _ _ (fun _ => ⟨e0, e1⟩) ?_
  clear hK
  try simp only [Act.put]
  refine wpAnyT_one (i := 18) (o := { dst := some 21, op := Op.indexAddr 63 (Operand.tmp 7) (Operand.tmp 9), type := 0, pos := "kinds.go:38", after := #[{ on := 3, ground := Ground.data }, { on := 5, ground := Ground.data }, { on := 0, ground := Ground.phase }, { on := 1, ground := Ground.phase }, { on := 2, ground := Ground.phase }, { on := 3, ground := Ground.phase }, { on := 4, ground := Ground.phase }, { on := 5, ground := Ground.phase }, { on := 6, ground := Ground.phase }, { on := 7, ground := Ground.phase }, { on := 8, ground := Ground.phase }, { on := 9, ground := Ground.phase }, { on := 10, ground := Ground.phase }, { on := 11, ground := Ground.phase }, { on := 12, ground := Ground.phase }, { on := 13, ground := Ground.phase }, { on := 14, ground := Ground.phase }, { on := 15, ground := Ground.phase }, { on := 16, ground := Ground.phase }, { on := 17, ground := Ground.phase }], guard := none }) (by kernel_rfl) rfl (fun K hK => ?_)
  go_simp
  refine hK.out _ _ (fun h => absurd h (by decide)) ?_
  clear hK
  try simp only [Act.put]
  refine wpAnyT_one (i := 19) (o := { dst := none, op := Op.store 22 (Operand.tmp 21) (Operand.tmp 19), type := 0, pos := "kinds.go:38", after := #[{ on := 18, ground := Ground.data }, { on := 15, ground := Ground.data }, { on := 17, ground := Ground.chain }, { on := 0, ground := Ground.phase }, { on := 1, ground := Ground.phase }, { on := 2, ground := Ground.phase }, { on := 3, ground := Ground.phase }, { on := 4, ground := Ground.phase }, { on := 5, ground := Ground.phase }, { on := 6, ground := Ground.phase }, { on := 7, ground := Ground.phase }, { on := 8, ground := Ground.phase }, { on := 9, ground := Ground.phase }, { on := 10, ground := Ground.phase }, { on := 11, ground := Ground.phase }, { on := 12, ground := Ground.phase }, { on := 13, ground := Ground.phase }, { on := 14, ground := Ground.phase }, { on := 15, ground := Ground.phase }, { on := 16, ground := Ground.phase }, { on := 17, ground := Ground.phase }], guard := none }) (by kernel_rfl) rfl (fun K hK => ?_)
  have f0 := (S0.out.now GB.out).lineT HN.out GA.out GB'.out
  rw [E17.out] at f0
  obtain ⟨f1, f2⟩ := f0
  go_simp
  clear f1 f2
  obtain ⟨V5, hW⟩ : ∃ V5, (V4.setCell ⟨L, j, none⟩ (.slice (some ⟨ga, 0, none⟩) c c)) = V5 := ⟨_, rfl⟩
  have E19 := hid hW
  rw [hW]
  clear hW
  refine hK.out _ _ (fun h => absurd h (by decide)) ?_
  clear hK
  try simp only [Act.put]
  refine wpAnyT_done (by kernel_rfl) ?_ _
  have FIN : Hid (Dn B w (.slice (some ⟨L, 0, none⟩) n cap) c ((St.swap i j).run m) k (.returned (.tuple #[])) V5) := by
   unfold Hid
   rw [← E19.out, ← E17.out]
   have h := S0.out.now GB.out
   rw [← HN.out] at h ⊢
   obtain ⟨s1, s2, s3⟩ := h.swap GA.out GB'.out
   refine ⟨_, rfl, s1, (BB.out.trans (GB.out.mono HB0.out)).trans s2, (KK.out.trans (Kw.of GB.out)).trans s3⟩
  clear la lb S0 KK BB GA GB' GB P1 E17 E19 HN HNL KB e0 e1 y0 y1
  go_wp2
  go_end0
  exact FIN.out
end Go.Proofs.YtnpcfohimlfbdaaGreat
