/-
  Sh25: the law's shifted.
-/
import Derived.Test.YtdfnehngffajiaaEn25
import Derived.Test.YtdfnehngffajiaaBt25
import Derived.Test.YtdfnehngffajiaaLn25
import Derived.Deep.LoopGhost
import Derived.Deep.RegionHeld3
import Derived.Deep.AppendLies
import Derived.Deep.Slices
namespace Go.Proofs.Ytdfnehngffajiaa
open Go.RowKit
set_option linter.unusedVariables false

theorem below_via25 {B : Nat} {a b c : World} (k : Below B b c) (h : Below B a b) : Below B a c := h.trans k
theorem size_via25 {a b : World} (h : Below a.heap.size a b) : a.heap.size ≤ b.heap.size := h.size
theorem alo_on25 {w0 w : World} (h : Below w0.heap.size w0 w) (o : Obj) : Below w0.heap.size w0 (w.alloc o) := h.alloc h.size o

set_option maxHeartbeats 3200000 in
set_option maxRecDepth 100000 in
theorem shifted25 {B : Nat} {w : World} {v : Value} {L : List Tok} {d : Nat} (h : Toks B w v L) (hl : L.length ≤ 4194304) (hd : d ≤ 4194304) (hc : ∀ j (q : j < L.length), 0 ≤ L[j].c ∧ L[j].c ≤ 4194304) :
    Calls Try.prog 12 #[v, .int .i64 (d : Int)] w fun e w' => ∃ v', e = .returned v' ∧ Toks w.heap.size w' v' (L.map (shT d)) ∧ Below w.heap.size w w' := by
  obtain ⟨a, cap, rfl⟩ := h.form
  have HA := hid h
  have HC := hid hc
  clear h hc
  obtain ⟨i, hi, hz, hsz, hby⟩ := info_parts Try.infoTk25
  have hrun := run_make (P := Try.prog) w 25 37 i (.agg #[.int .i64 0, .string ⟨#[]⟩, .int .i64 0]) Try.underlying25 hi hz .i64 .i64 0 L.length (by omega) (by omega) (by rw [hby]; omega) (by omega)
  rw [hsz] at hrun
  obtain ⟨n, hn⟩ : ∃ n, L.length = n := ⟨_, rfl⟩
  have HN := hid hn
  rw [hn] at hl hrun ⊢
  clear hn
  go_enter Try.func12, Try.ntmps12
  go_wp2_with fail
  have M0 := hid (World.ownsRow_made (base := w.heap.size) (size := 3) w (madeCells #[Value.int IntKind.i64 0, Value.string ⟨#[]⟩, Value.int IntKind.i64 0] (n * 3)) n (e := 37) (Nat.le_refl _) (by unfold maxLen; omega) (by rw [size_madeCells]))
  have B0 := hid (alo_on25 (Below.refl w.heap.size w) (.cells (madeCells #[Value.int IntKind.i64 0, Value.string ⟨#[]⟩, Value.int IntKind.i64 0] (n * 3)) 37))
  clear hrun hi hz hsz hby
  go_loopg [5, 6] n (fun gk s5 s6 wr => ∃ k : Nat, s6 = .int .i64 (k : Int) ∧ k ≤ n ∧ gk = n - k ∧ Hid (Toks w.heap.size wr s5 ((L.take k).map (shT d))) ∧ Hid (Below w.heap.size w wr))
  case atStart => exact ⟨0, rfl, Nat.zero_le _, rfl, M0, B0⟩
  case round =>
    clear M0 B0
    rename World => wr
    obtain ⟨k, rfl, hk, hgk, HL, HB⟩ := hrel
    have HGK := hid hgk
    clear hgk
    by_cases hlt : k < n
    · have h1 : (k : Int) < (n : Int) := by omega
      have hkl : k < L.length := by rw [HN.out]; exact hlt
      obtain ⟨g, rfl, _, c0, c1, c2⟩ := HA.out.at hkl
      have hcc := HC.out k hkl
      have NX : Hid ((L.take k).map (shT d) ++ [shT d L[k]] = (L.take (k + 1)).map (shT d)) := hid (by rw [List.take_succ_eq_append_getElem hkl, List.map_append]; rfl)
      have HLN : Hid (((L.take k).map (shT d)).length = k) := hid (by rw [List.length_map, List.length_take]; omega)
      obtain ⟨⟨tk, tx, tc⟩, ht⟩ : ∃ t, L[k] = t := ⟨_, rfl⟩
      rw [ht] at c0 c1 c2 hcc NX
      dsimp only [shT] at c0 c1 c2 hcc NX
      have HX : Hid (∀ w', Below w.heap.size w w' → w'.cell? ⟨g, k * 3, none⟩ = some (.int .i64 tk) ∧ w'.cell? ⟨g, k * 3 + 1, none⟩ = some (.string tx) ∧ w'.cell? ⟨g, k * 3 + 2, none⟩ = some (.int .i64 tc)) := hid fun w' hb => ⟨(hb.cell (p := ⟨g, k * 3, none⟩) (World.block_lt_of_cell? w _ c0)).trans c0, (hb.cell (p := ⟨g, k * 3 + 1, none⟩) (World.block_lt_of_cell? w _ c1)).trans c1, (hb.cell (p := ⟨g, k * 3 + 2, none⟩) (World.block_lt_of_cell? w _ c2)).trans c2⟩
      have gw : IntKind.i64.wrap (tc + (d : Int)) = tc + (d : Int) := by rw [wrap_is] <;> omega
      have gk2 : IntKind.i64.wrap ((k : Int) + 1) = ((k + 1 : Nat) : Int) := by rw [wrap_is] <;> omega
      obtain ⟨M, hM⟩ : ∃ M, (L.take k).map (shT d) = M := ⟨_, rfl⟩
      rw [hM] at HL NX HLN
      clear c0 c1 c2 ht hM HA HC
      obtain ⟨x0, x1, x2⟩ := HX.out _ HB.out
      go_wp2_with fail
      have KB : Hid (∀ w', Below wr.heap.size wr w' → w'.cell? ⟨g, k * 3, none⟩ = some (.int .i64 tk) ∧ w'.cell? ⟨g, k * 3 + 1, none⟩ = some (.string tx) ∧ w'.cell? ⟨g, k * 3 + 2, none⟩ = some (.int .i64 tc)) := fun w' h => ⟨cnow h x0, cnow h x1, cnow h x2⟩
      refine wp_region_tail (fun w' => w'.cell? ⟨g, k * 3, none⟩ = some (.int .i64 tk) ∧ w'.cell? ⟨g, k * 3 + 1, none⟩ = some (.string tx) ∧ w'.cell? ⟨g, k * 3 + 2, none⟩ = some (.int .i64 tc)) 21 (by kernel_rfl) ?_
      obtain ⟨D41, hD⟩ : ∃ D41, wr.drew = D41 := ⟨_, rfl⟩
      have GB : Hid (Below wr.heap.size wr D41) := by unfold Hid; rw [← hD]; exact (Below.refl _ _).drew
      rw [hD]
      clear hD
      have KC := hid (KB.out _ GB.out)
      refine wpAnyT_take (i := 0) (oi := { dst := some 16, op := Op.move (Operand.tmp 5), type := 25, pos := "outright.go:51", after := #[], guard := none }) (v := u5) rfl (by kernel_rfl) (fun _ _ _ h => h) (Or.inl ⟨by rfl, ?_⟩) (KC.out) ?_
      · intro w hSw
        (try dsimp only at hSw)
        go_simp
      simp only [Act.put, List.setIfInBounds_toArray, List.set_cons_zero, List.set_cons_succ]
      refine wpAnyT_take (i := 1) (oi := { dst := some 17, op := Op.move (Operand.tmp 0), type := 25, pos := "outright.go:51", after := #[], guard := none }) (v := (.slice (some ⟨g, 0, none⟩) n cap)) rfl (by kernel_rfl) (fun _ _ _ h => h) (Or.inl ⟨by rfl, ?_⟩) (KC.out) ?_
      · intro w hSw
        (try dsimp only at hSw)
        go_simp
      simp only [Act.put, List.setIfInBounds_toArray, List.set_cons_zero, List.set_cons_succ]
      refine wpAnyT_take (i := 2) (oi := { dst := some 18, op := Op.move (Operand.tmp 6), type := 3, pos := "outright.go:51", after := #[], guard := none }) (v := (.int .i64 (k : Int))) rfl (by kernel_rfl) (fun _ _ _ h => h) (Or.inl ⟨by rfl, ?_⟩) (KC.out) ?_
      · intro w hSw
        (try dsimp only at hSw)
        go_simp
      simp only [Act.put, List.setIfInBounds_toArray, List.set_cons_zero, List.set_cons_succ]
      refine wpAnyT_take (i := 3) (oi := { dst := some 19, op := Op.indexAddr 25 (Operand.tmp 17) (Operand.tmp 18), type := 0, pos := "outright.go:51", after := #[{ on := 1, ground := Ground.data }, { on := 2, ground := Ground.data }], guard := none }) (v := (.pointer (some ⟨g, k * 3, none⟩))) rfl (by kernel_rfl) (fun _ _ _ h => h) (Or.inl ⟨by rfl, ?_⟩) (KC.out) ?_
      · intro w hSw
        (try dsimp only at hSw)
        go_simp
      simp only [Act.put, List.setIfInBounds_toArray, List.set_cons_zero, List.set_cons_succ]
      refine wpAnyT_take (i := 4) (oi := { dst := some 20, op := Op.fieldAddr 37 (Operand.tmp 19) 0, type := 0, pos := "outright.go:51", after := #[{ on := 3, ground := Ground.data }], guard := none }) (v := (.pointer (some ⟨g, k * 3, none⟩))) rfl (by kernel_rfl) (fun _ _ _ h => h) (Or.inl ⟨by rfl, ?_⟩) (KC.out) ?_
      · intro w hSw
        (try dsimp only at hSw)
        go_simp
      simp only [Act.put, List.setIfInBounds_toArray, List.set_cons_zero, List.set_cons_succ]
      refine wpAnyT_take (i := 5) (oi := { dst := some 21, op := Op.load 3 (Operand.tmp 20), type := 3, pos := "outright.go:51", after := #[{ on := 4, ground := Ground.data }], guard := none }) (v := (.int .i64 tk)) rfl (by kernel_rfl) (fun _ _ _ h => h) (Or.inl ⟨by rfl, ?_⟩) (KC.out) ?_
      · intro w hSw
        (try dsimp only at hSw)
        go_simp
      simp only [Act.put, List.setIfInBounds_toArray, List.set_cons_zero, List.set_cons_succ]
      refine wpAnyT_take (i := 6) (oi := { dst := some 22, op := Op.move (Operand.tmp 0), type := 25, pos := "outright.go:51", after := #[], guard := none }) (v := (.slice (some ⟨g, 0, none⟩) n cap)) rfl (by kernel_rfl) (fun _ _ _ h => h) (Or.inl ⟨by rfl, ?_⟩) (KC.out) ?_
      · intro w hSw
        (try dsimp only at hSw)
        go_simp
      simp only [Act.put, List.setIfInBounds_toArray, List.set_cons_zero, List.set_cons_succ]
      refine wpAnyT_take (i := 7) (oi := { dst := some 23, op := Op.move (Operand.tmp 6), type := 3, pos := "outright.go:51", after := #[], guard := none }) (v := (.int .i64 (k : Int))) rfl (by kernel_rfl) (fun _ _ _ h => h) (Or.inl ⟨by rfl, ?_⟩) (KC.out) ?_
      · intro w hSw
        (try dsimp only at hSw)
        go_simp
      simp only [Act.put, List.setIfInBounds_toArray, List.set_cons_zero, List.set_cons_succ]
      refine wpAnyT_take (i := 8) (oi := { dst := some 24, op := Op.indexAddr 25 (Operand.tmp 22) (Operand.tmp 23), type := 0, pos := "outright.go:51", after := #[{ on := 6, ground := Ground.data }, { on := 7, ground := Ground.data }], guard := none }) (v := (.pointer (some ⟨g, k * 3, none⟩))) rfl (by kernel_rfl) (fun _ _ _ h => h) (Or.inl ⟨by rfl, ?_⟩) (KC.out) ?_
      · intro w hSw
        (try dsimp only at hSw)
        go_simp
      simp only [Act.put, List.setIfInBounds_toArray, List.set_cons_zero, List.set_cons_succ]
      refine wpAnyT_take (i := 9) (oi := { dst := some 25, op := Op.fieldAddr 37 (Operand.tmp 24) 1, type := 0, pos := "outright.go:51", after := #[{ on := 8, ground := Ground.data }], guard := none }) (v := (.pointer (some ⟨g, k * 3 + 1, none⟩))) rfl (by kernel_rfl) (fun _ _ _ h => h) (Or.inl ⟨by rfl, ?_⟩) (KC.out) ?_
      · intro w hSw
        (try dsimp only at hSw)
        go_simp
      simp only [Act.put, List.setIfInBounds_toArray, List.set_cons_zero, List.set_cons_succ]
      refine wpAnyT_take (i := 10) (oi := { dst := some 26, op := Op.load 9 (Operand.tmp 25), type := 9, pos := "outright.go:51", after := #[{ on := 9, ground := Ground.data }], guard := none }) (v := (.string tx)) rfl (by kernel_rfl) (fun _ _ _ h => h) (Or.inl ⟨by rfl, ?_⟩) (KC.out) ?_
      · intro w hSw
        (try dsimp only at hSw)
        go_simp
      simp only [Act.put, List.setIfInBounds_toArray, List.set_cons_zero, List.set_cons_succ]
      refine wpAnyT_take (i := 11) (oi := { dst := some 27, op := Op.move (Operand.tmp 0), type := 25, pos := "outright.go:51", after := #[], guard := none }) (v := (.slice (some ⟨g, 0, none⟩) n cap)) rfl (by kernel_rfl) (fun _ _ _ h => h) (Or.inl ⟨by rfl, ?_⟩) (KC.out) ?_
      · intro w hSw
        (try dsimp only at hSw)
        go_simp
      simp only [Act.put, List.setIfInBounds_toArray, List.set_cons_zero, List.set_cons_succ]
      refine wpAnyT_take (i := 12) (oi := { dst := some 28, op := Op.move (Operand.tmp 6), type := 3, pos := "outright.go:51", after := #[], guard := none }) (v := (.int .i64 (k : Int))) rfl (by kernel_rfl) (fun _ _ _ h => h) (Or.inl ⟨by rfl, ?_⟩) (KC.out) ?_
      · intro w hSw
        (try dsimp only at hSw)
        go_simp
      simp only [Act.put, List.setIfInBounds_toArray, List.set_cons_zero, List.set_cons_succ]
      refine wpAnyT_take (i := 13) (oi := { dst := some 29, op := Op.indexAddr 25 (Operand.tmp 27) (Operand.tmp 28), type := 0, pos := "outright.go:51", after := #[{ on := 11, ground := Ground.data }, { on := 12, ground := Ground.data }], guard := none }) (v := (.pointer (some ⟨g, k * 3, none⟩))) rfl (by kernel_rfl) (fun _ _ _ h => h) (Or.inl ⟨by rfl, ?_⟩) (KC.out) ?_
      · intro w hSw
        (try dsimp only at hSw)
        go_simp
      simp only [Act.put, List.setIfInBounds_toArray, List.set_cons_zero, List.set_cons_succ]
      refine wpAnyT_take (i := 14) (oi := { dst := some 30, op := Op.fieldAddr 37 (Operand.tmp 29) 2, type := 0, pos := "outright.go:51", after := #[{ on := 13, ground := Ground.data }], guard := none }) (v := (.pointer (some ⟨g, k * 3 + 2, none⟩))) rfl (by kernel_rfl) (fun _ _ _ h => h) (Or.inl ⟨by rfl, ?_⟩) (KC.out) ?_
      · intro w hSw
        (try dsimp only at hSw)
        go_simp
      simp only [Act.put, List.setIfInBounds_toArray, List.set_cons_zero, List.set_cons_succ]
      refine wpAnyT_take (i := 15) (oi := { dst := some 31, op := Op.load 3 (Operand.tmp 30), type := 3, pos := "outright.go:51", after := #[{ on := 14, ground := Ground.data }], guard := none }) (v := (.int .i64 tc)) rfl (by kernel_rfl) (fun _ _ _ h => h) (Or.inl ⟨by rfl, ?_⟩) (KC.out) ?_
      · intro w hSw
        (try dsimp only at hSw)
        go_simp
      simp only [Act.put, List.setIfInBounds_toArray, List.set_cons_zero, List.set_cons_succ]
      refine wpAnyT_take (i := 16) (oi := { dst := some 32, op := Op.move (Operand.tmp 1), type := 3, pos := "outright.go:51", after := #[], guard := none }) (v := (.int .i64 (d : Int))) rfl (by kernel_rfl) (fun _ _ _ h => h) (Or.inl ⟨by rfl, ?_⟩) (KC.out) ?_
      · intro w hSw
        (try dsimp only at hSw)
        go_simp
      simp only [Act.put, List.setIfInBounds_toArray, List.set_cons_zero, List.set_cons_succ]
      refine wpAnyT_take (i := 17) (oi := { dst := some 33, op := Op.binOp BinOp.add 3 (Operand.tmp 31) (Operand.tmp 32) 3, type := 3, pos := "outright.go:51", after := #[{ on := 15, ground := Ground.data }, { on := 16, ground := Ground.data }], guard := none }) (v := (.int .i64 (tc + (d : Int)))) rfl (by kernel_rfl) (fun _ _ _ h => h) (Or.inl ⟨by rfl, ?_⟩) (KC.out) ?_
      · intro w hSw
        (try dsimp only at hSw)
        go_simp
      simp only [Act.put, List.setIfInBounds_toArray, List.set_cons_zero, List.set_cons_succ]
      refine wpAnyT_take (i := 18) (oi := { dst := some 34, op := Op.build 37 #[(0, Operand.tmp 21), (1, Operand.tmp 26), (2, Operand.tmp 33)], type := 37, pos := "outright.go:51", after := #[{ on := 5, ground := Ground.data }, { on := 10, ground := Ground.data }, { on := 17, ground := Ground.data }], guard := none }) (v := (.agg #[.int .i64 tk, .string tx, .int .i64 (tc + (d : Int))])) rfl (by kernel_rfl) (fun _ _ _ h => h) (Or.inl ⟨by rfl, ?_⟩) (KC.out) ?_
      · intro w hSw
        (try dsimp only at hSw)
        go_simp
      simp only [Act.put, List.setIfInBounds_toArray, List.set_cons_zero, List.set_cons_succ]
      refine wpAnyT_one (i := 19) (o := { dst := some 35, op := Op.buildSlice 25 1 #[(0, Operand.tmp 34)], type := 25, pos := "outright.go:51", after := #[{ on := 18, ground := Ground.data }], guard := none }) (by kernel_rfl) rfl (fun K hK => ?_)
      go_simp
      obtain ⟨V42, hW⟩ : ∃ V, D41.alloc (.cells #[.int .i64 tk, .string tx, .int .i64 (tc + (d : Int))] 37) = V := ⟨_, rfl⟩
      obtain ⟨b, sz0⟩ := alo1 D41 (.cells #[.int .i64 tk, .string tx, .int .i64 (tc + (d : Int))] 37)
      have y0 : Hid ((D41.alloc (.cells #[.int .i64 tk, .string tx, .int .i64 (tc + (d : Int))] 37)).cell? ⟨D41.heap.size, 0, none⟩ = some (.int .i64 tk)) := hid (by simp)
      have y1 : Hid ((D41.alloc (.cells #[.int .i64 tk, .string tx, .int .i64 (tc + (d : Int))] 37)).cell? ⟨D41.heap.size, 1, none⟩ = some (.string tx)) := hid (by simp)
      have y2 : Hid ((D41.alloc (.cells #[.int .i64 tk, .string tx, .int .i64 (tc + (d : Int))] 37)).cell? ⟨D41.heap.size, 2, none⟩ = some (.int .i64 (tc + (d : Int)))) := hid (by simp)
      rw [hW] at b sz0 y0 y1 y2
      replace GB := hid (below_step GB.out b)
      replace KC := hid (KB.out _ GB.out)
      rw [hW]
      clear hW b sz0
      refine hK.out _ _ (fun _ => KC.out) ?_
      clear hK
      try simp only [Act.put]
      refine wpAnyT_one (i := 20) (o := { dst := some 36, op := Op.call { callee := Callee.builtin Builtin.append, args := #[Operand.tmp 16, Operand.tmp 35], argTypes := #[25, 25] }, type := 25, pos := "outright.go:51", after := #[{ on := 0, ground := Ground.data }, { on := 19, ground := Ground.data }], guard := none }) (by kernel_rfl) rfl (fun K hK => ?_)
      have HTX : Hid (Toks w.heap.size V42 u5 M) := hid (HL.out.now GB.out)
      refine step_append_tok25 V42 rfl (.tmp 16) (.tmp 35) rfl w.heap.size u5 M ⟨tk, tx, tc + (d : Int)⟩ rfl HTX.out D41.heap.size rfl y0.out y1.out y2.out (by rw [HLN.out]; omega) (Nat.le_trans HB.out.size GB.out.size) ?_
      intro m9 a9 cap9 w43 hm9 ht9 hb9
      have HT9 := hid ht9.out
      have HB9 : Hid (Below w.heap.size w w43) := hid (HB.out.trans ((GB.out.mono HB.out.size).trans hb9.out))
      replace KC := hid (HX.out _ HB9.out)
      clear ht9 hb9 hm9 y0 y1 y2 HTX
      refine hK.out _ _ (fun _ => KC.out) ?_
      clear hK
      refine wpAnyT_one (i := 21) (o := { dst := some 5, op := Op.assign (Operand.tmp 36), type := 25, pos := "outright.go:51", after := #[{ on := 20, ground := Ground.data }, { on := 20, ground := Ground.chain }, { on := 0, ground := Ground.phase }, { on := 1, ground := Ground.phase }, { on := 2, ground := Ground.phase }, { on := 3, ground := Ground.phase }, { on := 4, ground := Ground.phase }, { on := 5, ground := Ground.phase }, { on := 6, ground := Ground.phase }, { on := 7, ground := Ground.phase }, { on := 8, ground := Ground.phase }, { on := 9, ground := Ground.phase }, { on := 10, ground := Ground.phase }, { on := 11, ground := Ground.phase }, { on := 12, ground := Ground.phase }, { on := 13, ground := Ground.phase }, { on := 14, ground := Ground.phase }, { on := 15, ground := Ground.phase }, { on := 16, ground := Ground.phase }, { on := 17, ground := Ground.phase }, { on := 18, ground := Ground.phase }, { on := 19, ground := Ground.phase }, { on := 20, ground := Ground.phase }], guard := none }) (by kernel_rfl) rfl (fun K hK => ?_)
      go_simp
      refine hK.out _ _ (fun h => absurd h (by decide)) ?_
      clear hK
      try simp only [Act.put]
      refine wpAnyT_done (by kernel_rfl) ?_ _
      (try dsimp only)
      rw [NX.out] at HT9
      clear GB KB KC HL HB HX x0 x1 x2 NX
      go_wp2_with fail
      go_roundg (n - (k + 1))
      case rel => exact ⟨k + 1, by first | rfl | go_num, by omega, rfl, HT9, HB9⟩
      case measure => have := HGK.out; omega
    · have h1 : ¬ (k : Int) < (n : Int) := by omega
      have e : L.take k = L := List.take_of_length_le (by rw [HN.out]; omega)
      rw [e] at HL
      clear HGK HA HC HN
      go_wp2
      go_ret
      exact ⟨_, rfl, HL.out, HB.out⟩
end Go.Proofs.Ytdfnehngffajiaa
