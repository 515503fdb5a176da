/-
  Nil11: the nil tape, a new tape.
-/
import Derived.Test.YtbalcjjeakdjkaaQNum11ToAwake11
namespace Go.Proofs.Ytbalcjjeakdjkaa
open Go.RowKit
set_option linter.unusedVariables false

set_option maxRecDepth 100000 in
theorem num_3 {w : World} : Calls Try.prog 14 #[.int .i64 3] w (Numed w 3) := by
  obtain ⟨W0, hW⟩ : ∃ W0, w.alloc (duo (.bool false) (.slice (some ⟨w.heap.size + 1, 0, none⟩) 1 1)) = W0 := ⟨_, rfl⟩
  obtain ⟨b0, sz0⟩ := alo1 w (duo (.bool false) (.slice (some ⟨w.heap.size + 1, 0, none⟩) 1 1))
  rw [hW] at b0 sz0
  obtain ⟨V, hV⟩ : ∃ V, W0.alloc (.cells #[.int .u64 3] 70) = V := ⟨_, rfl⟩
  obtain ⟨bv, szv⟩ := alo1 W0 (.cells #[.int .u64 3] 70)
  rw [hV] at bv szv
  have hsl : Sl V.heap.size V (.slice (some ⟨W0.heap.size, 0, none⟩) 1 1) [3] := by
    rw [← hV]
    have := Row.new_sl W0 [3] (wf_word (by omega) WF.nil) (by decide)
    simpa [ws] using this
  rw [sz0] at hsl
  have PF : Hid (Duo V w.heap.size (.bool false) (.slice (some ⟨w.heap.size + 1, 0, none⟩) 1 1)) := by unfold Hid; refine Duo.step ?_ bv; rw [← hW]; exact Duo.new w _ _
  have FIN : Hid (Numed w 3 (.returned (.agg #[.bool false, .slice (some ⟨w.heap.size + 1, 0, none⟩) 1 1])) V) := ⟨_, _, _, rfl, ⟨false, [3], _, _, rfl, hsl, ⟨hsl.1, by decide⟩, by simp, by decide, by simp⟩, below_step b0 bv⟩
  rw [← hV, ← hW] at FIN PF
  clear b0 sz0 hW bv szv hV hsl
  go_enter Try.func14, Try.ntmps14
  go_wp2
  exact bodyPost_ret (zback Try.results14 PF.out _ (by rfl)) rfl FIN.out

abbrev nilP : Value := .pointer none
set_option maxRecDepth 100000 in
theorem now_nil {w : World} : Calls Try.prog 8 #[nilP] w fun e w' => e = .returned mzero ∧ Below w.heap.size w w' := by
  have b0 := hid (alo1 w mbox).1
  have PF : Hid (Cel (w.alloc mbox) w.heap.size 33 [.int .i64 0, .int .i64 0, .slice none 0 0]) := Cel.new w _ _
  go_enter Try.func8, Try.ntmps8
  go_wp2
  exact bodyPost_ret (mback Try.results8 PF.out _ (by rfl)) rfl ⟨rfl, b0.out⟩
theorem log_nil {w : World} : Calls Try.prog 9 #[nilP] w fun e w' => e = .returned (.slice none 0 0) ∧ w' = w := by
  go_enter Try.func9, Try.ntmps9
  go_wp2
  go_ret
  exact ⟨rfl, rfl⟩
theorem undo_nil {w : World} : Calls Try.prog 10 #[nilP] w fun e w' => e = .returned (.bool false) ∧ w' = w := by
  go_enter Try.func10, Try.ntmps10
  go_wp2
  go_ret
  exact ⟨rfl, rfl⟩
theorem redo_nil {w : World} : Calls Try.prog 11 #[nilP] w fun e w' => e = .returned (.bool false) ∧ w' = w := by
  go_enter Try.func11, Try.ntmps11
  go_wp2
  go_ret
  exact ⟨rfl, rfl⟩
theorem mback2 {f : Func} {s1 s2 : Nat} (hr : f.results = #[ResultVar.cell s1 33, ResultVar.cell s2 33]) {W : World} {b b' : Nat} {x0 x1 x2 y0 y1 y2 : Value} (h : Cel W b 33 [x0, x1, x2]) (h' : Cel W b' 33 [y0, y1, y2]) (tmps : Array Value) (ht : tmps[s1]? = some (.pointer (some ⟨b, 0, none⟩))) (ht' : tmps[s2]? = some (.pointer (some ⟨b', 0, none⟩))) :
    (results f tmps).run Try.prog W = .ok (.tuple #[.agg #[x0, x1, x2], .agg #[y0, y1, y2]]) W := by
  simp [results, hr, go_sem, ht, ht', h.at (i := 0) rfl, h.at (i := 1) rfl, h.at (i := 2) rfl, h'.at (i := 0) rfl, h'.at (i := 1) rfl, h'.at (i := 2) rfl]
set_option maxRecDepth 100000 in
theorem sides_nil {w : World} : Calls Try.prog 7 #[nilP] w fun e w' => e = .returned (.tuple #[mzero, mzero]) ∧ Below w.heap.size w w' := by
  have b0 := hid (alloc2 w mbox mbox).1
  have PF : Hid (Cel ((w.alloc mbox).alloc mbox) w.heap.size 33 [.int .i64 0, .int .i64 0, .slice none 0 0]) := (Cel.new w _ _).step ((Below.refl _ _).alloc (Nat.le_refl _) _)
  have PG : Hid (Cel ((w.alloc mbox).alloc mbox) (w.heap.size + 1) 33 [.int .i64 0, .int .i64 0, .slice none 0 0]) := by
    unfold Hid
    have := Cel.new (w.alloc mbox) 33 [.int .i64 0, .int .i64 0, .slice none 0 0]
    simpa using this
  go_enter Try.func7, Try.ntmps7
  go_wp2
  exact bodyPost_ret (mback2 Try.results7 PF.out PG.out _ (by rfl) (by rfl)) rfl ⟨rfl, b0.out⟩
set_option maxRecDepth 100000 in
theorem noMat_zero {w : World} : Calls Try.prog 12 #[mzero] w fun e w' => e = .returned (.bool true) ∧ Below w.heap.size w w' := by
  have b0 := hid (alo1 w mbox).1
  go_enter Try.func12, Try.ntmps12
  go_wp2
  go_ret
  exact ⟨rfl, b0.out⟩
abbrev tapeO (c : Int) (a : Option Addr) (n q : Nat) : Obj := .cells #[.slice none 0 0, .slice none 0 0, .int .i64 c, .slice a n q] 60
def Newed (w : World) (e : Ending) (w' : World) : Prop := ∃ g c a n q, e = .returned (.tuple #[.pointer (some ⟨g, 0, none⟩), .int .i64 0]) ∧ Cel w' g 60 [.slice none 0 0, .slice none 0 0, .int .i64 c, .slice a n q] ∧ Below w.heap.size w w'
set_option maxHeartbeats 1600000 in
set_option maxRecDepth 100000 in
theorem new_yes {w : World} {v : Value} {r c : Nat} {zs : List Int} {k : Nat} (h : Mx w v r c zs k) : Calls Try.prog 13 #[v] w (Newed w) := by
  have M0 := hid h
  obtain ⟨aa, ca, rfl, hr, hc⟩ := h.form
  obtain ⟨la, hla⟩ : ∃ la, r * c = la := ⟨_, rfl⟩
  rw [hla] at M0 ⊢
  obtain ⟨W0, hW⟩ : ∃ W0, w.alloc (matO r c (.slice aa la ca)) = W0 := ⟨_, rfl⟩
  obtain ⟨b0, sz0⟩ := alo1 w (matO r c (.slice aa la ca))
  rw [hW] at b0 sz0
  have PA : Hid (Cel W0 w.heap.size 33 (matc r c (.slice aa la ca))) := by unfold Hid; rw [← hW]; exact Cel.new w _ _
  have HCK := hid (check_yes (M0.out.now b0))
  replace M0 := hid (M0.out.now b0)
  have x0 := PA.out.at (i := 0) rfl
  have x1 := PA.out.at (i := 1) rfl
  have x2 := PA.out.at (i := 2) rfl
  rw [← hW] at x0 x1 x2
  have G0 := hid b0
  have EW := hid hW
  clear h hla b0 sz0 hW
  go_enter Try.func13, Try.ntmps13
  go_wp2_with fail
  rw [EW.out]
  refine HCK.out.mono ?_
  rintro e w1 ⟨rfl, b⟩
  have HS := hid (sheetOf_any (M0.out.now b))
  replace PA := hid (PA.out.step b)
  replace G0 := hid (below_step G0.out b)
  have y0 := PA.out.at (i := 0) rfl
  have y1 := PA.out.at (i := 1) rfl
  have y2 := PA.out.at (i := 2) rfl
  clear HCK b x0 x1 x2 EW M0
  go_wp2_with fail
  refine HS.out.mono ?_
  rintro e w2 ⟨lv, gs, rfl, hS, b⟩
  obtain ⟨av, cv, rfl, -, -⟩ := hS.form
  have FIN : Hid (Newed w (.returned (.tuple #[.pointer (some ⟨w2.heap.size, 0, none⟩), .int .i64 0])) (w2.alloc (tapeO c av (rowsL r c zs).length cv))) := ⟨_, _, _, _, _, rfl, Cel.new w2 _ _, below_step (below_step G0.out b) (alo1 w2 _).1⟩
  obtain ⟨n, hn⟩ : ∃ n, (rowsL r c zs).length = n := ⟨_, rfl⟩
  rw [hn] at FIN ⊢
  clear hS b hn HS y0 y1 y2 PA G0
  go_wp2
  go_ret2
  exact FIN.out
set_option maxHeartbeats 1600000 in
set_option maxRecDepth 100000 in
theorem new_no {w : World} {r c : Int} {a : Option Addr} {l cap : Nat} (h : ¬ Snd r c l) : Calls Try.prog 13 #[.agg #[.int .i64 r, .int .i64 c, .slice a l cap]] w fun e w' => e = .returned (.tuple #[.pointer none, .int .i64 1]) ∧ Below w.heap.size w w' := by
  obtain ⟨W0, hW⟩ : ∃ W0, w.alloc (.cells #[.int .i64 r, .int .i64 c, .slice a l cap] 33) = W0 := ⟨_, rfl⟩
  obtain ⟨b0, sz0⟩ := alo1 w (.cells #[.int .i64 r, .int .i64 c, .slice a l cap] 33)
  rw [hW] at b0 sz0
  have PA : Hid (Cel W0 w.heap.size 33 [.int .i64 r, .int .i64 c, .slice a l cap]) := by unfold Hid; rw [← hW]; exact Cel.new w _ _
  have HCK := hid (check_no (w := W0) (a := a) (cap := cap) h)
  have x0 := PA.out.at (i := 0) rfl
  have x1 := PA.out.at (i := 1) rfl
  have x2 := PA.out.at (i := 2) rfl
  rw [← hW] at x0 x1 x2
  have G0 := hid b0
  have EW := hid hW
  clear b0 sz0 hW h PA
  go_enter Try.func13, Try.ntmps13
  go_wp2_with fail
  rw [EW.out]
  refine HCK.out.mono ?_
  rintro e w1 ⟨rfl, b⟩
  have FIN := hid (below_step G0.out b)
  clear b x0 x1 x2 EW G0 HCK
  go_wp2
  go_ret2
  exact ⟨rfl, FIN.out⟩
theorem canGoBack_new {w : World} {g : Nat} {c : Int} {a : Option Addr} {n q : Nat} (h : Cel w g 60 [.slice none 0 0, .slice none 0 0, .int .i64 c, .slice a n q]) : Calls Try.prog 29 #[.pointer (some ⟨g, 0, none⟩)] w fun e w' => e = .returned (.bool false) ∧ w' = w := by
  have x0 := h.at (i := 0) rfl
  clear h
  go_enter Try.func29, Try.ntmps29
  go_wp2
  go_ret
  exact ⟨rfl, rfl⟩
theorem undo_new {w : World} {g : Nat} {c : Int} {a : Option Addr} {n q : Nat} (h : Cel w g 60 [.slice none 0 0, .slice none 0 0, .int .i64 c, .slice a n q]) : Calls Try.prog 10 #[.pointer (some ⟨g, 0, none⟩)] w fun e w' => e = .returned (.bool false) ∧ w' = w := by
  have HC := hid (canGoBack_new h)
  clear h
  go_enter Try.func10, Try.ntmps10
  go_wp2_with fail
  refine HC.out.mono ?_
  rintro e w1 ⟨rfl, hw⟩
  have hw' := hw.symm
  subst hw'
  go_wp2
  go_ret
  exact ⟨rfl, rfl⟩
theorem canGoOn_new {w : World} {g : Nat} {c : Int} {a : Option Addr} {n q : Nat} (h : Cel w g 60 [.slice none 0 0, .slice none 0 0, .int .i64 c, .slice a n q]) : Calls Try.prog 31 #[.pointer (some ⟨g, 0, none⟩)] w fun e w' => e = .returned (.bool false) ∧ w' = w := by
  have x0 := h.at (i := 1) rfl
  clear h
  go_enter Try.func31, Try.ntmps31
  go_wp2
  go_ret
  exact ⟨rfl, rfl⟩
theorem redo_new {w : World} {g : Nat} {c : Int} {a : Option Addr} {n q : Nat} (h : Cel w g 60 [.slice none 0 0, .slice none 0 0, .int .i64 c, .slice a n q]) : Calls Try.prog 11 #[.pointer (some ⟨g, 0, none⟩)] w fun e w' => e = .returned (.bool false) ∧ w' = w := by
  have HC := hid (canGoOn_new h)
  clear h
  go_enter Try.func11, Try.ntmps11
  go_wp2_with fail
  refine HC.out.mono ?_
  rintro e w1 ⟨rfl, hw⟩
  have hw' := hw.symm
  subst hw'
  go_wp2
  go_ret
  exact ⟨rfl, rfl⟩
set_option maxRecDepth 100000 in
theorem do_nil {w : World} : Calls Try.prog 6 #[nilP, .agg #[.int .i64 2, .int .i64 0, .int .i64 0, .bool false, .slice none 0 0]] w fun e w' => e = .returned (.int .i64 3) ∧ Below w.heap.size w w' := by
  obtain ⟨W0, hW⟩ : ∃ W0, w.alloc (.cells #[.int .i64 2, .int .i64 0, .int .i64 0, .bool false, .slice none 0 0] 30) = W0 := ⟨_, rfl⟩
  obtain ⟨b0, sz0⟩ := alo1 w (.cells #[.int .i64 2, .int .i64 0, .int .i64 0, .bool false, .slice none 0 0] 30)
  rw [hW] at b0 sz0
  have G0 := hid b0
  have EW := hid hW
  clear b0 sz0 hW
  go_enter Try.func6, Try.ntmps6
  go_wp2_with fail
  rw [EW.out]
  clear EW
  refine wp_region_tail (fun _ => True) 12 (by kernel_rfl) ?_
  obtain ⟨D1, hD⟩ : ∃ D1, W0.drew = D1 := ⟨_, rfl⟩
  have GB : Hid (Below W0.heap.size W0 D1) := by unfold Hid; rw [← hD]; exact (Below.refl _ _).drew
  rw [hD]
  clear hD
  refine wpAnyT_take (i := 0) (oi := { dst := some 5, op := Op.move (Operand.tmp 0), type := 23, pos := "tape.go:26", after := #[], guard := none }) (v := nilP) rfl (by kernel_rfl) (fun _ _ _ h => h) (Or.inl ⟨by rfl, ?_⟩) (trivial) ?_
  · intro w hSw
    (try dsimp only at hSw)
    go_simp
  simp only [Act.put, List.setIfInBounds_toArray, List.set_cons_zero, List.set_cons_succ]
  refine wpAnyT_take (i := 1) (oi := { dst := some 6, op := Op.binOp BinOp.eql 23 (Operand.tmp 5) (Operand.const (Value.pointer none)) 23, type := 4, pos := "tape.go:26", after := #[{ on := 0, ground := Ground.data }], guard := none }) (v := (.bool true)) rfl (by kernel_rfl) (fun _ _ _ h => h) (Or.inl ⟨by rfl, ?_⟩) (trivial) ?_
  · intro w hSw
    (try dsimp only at hSw)
    go_simp
  simp only [Act.put, List.setIfInBounds_toArray, List.set_cons_zero, List.set_cons_succ]
  refine wpAnyT_take (i := 2) (oi := { dst := some 7, op := Op.move (Operand.tmp 6), type := 4, pos := "tape.go:26", after := #[{ on := 1, ground := Ground.data }], guard := none }) (v := (.bool true)) rfl (by kernel_rfl) (fun _ _ _ h => h) (Or.inl ⟨by rfl, ?_⟩) (trivial) ?_
  · intro w hSw
    (try dsimp only at hSw)
    go_simp
  simp only [Act.put, List.setIfInBounds_toArray, List.set_cons_zero, List.set_cons_succ]
  refine wpAnyT_take (i := 3) (oi := { dst := some 8, op := Op.move (Operand.tmp 0), type := 23, pos := "tape.go:26", after := #[{ on := 2, ground := Ground.guard }], guard := some (2, false) }) (v := undef) rfl (by kernel_rfl) (fun _ _ _ h => h) (Or.inr ⟨by rfl, rfl⟩) (trivial) ?_
  simp only [Act.put, List.setIfInBounds_toArray, List.set_cons_zero, List.set_cons_succ]
  refine wpAnyT_take (i := 4) (oi := { dst := some 9, op := Op.nilCheck (Operand.tmp 8), type := 0, pos := "tape.go:26", after := #[{ on := 3, ground := Ground.data }, { on := 2, ground := Ground.guard }], guard := some (2, false) }) (v := undef) rfl (by kernel_rfl) (fun _ _ _ h => h) (Or.inr ⟨by rfl, rfl⟩) (trivial) ?_
  simp only [Act.put, List.setIfInBounds_toArray, List.set_cons_zero, List.set_cons_succ]
  refine wpAnyT_take (i := 5) (oi := { dst := some 10, op := Op.fieldAddr 60 (Operand.tmp 9) 1, type := 0, pos := "tape.go:26", after := #[{ on := 4, ground := Ground.data }, { on := 2, ground := Ground.guard }], guard := some (2, false) }) (v := undef) rfl (by kernel_rfl) (fun _ _ _ h => h) (Or.inr ⟨by rfl, rfl⟩) (trivial) ?_
  simp only [Act.put, List.setIfInBounds_toArray, List.set_cons_zero, List.set_cons_succ]
  refine wpAnyT_take (i := 6) (oi := { dst := some 11, op := Op.fieldAddr 55 (Operand.tmp 10) 1, type := 0, pos := "tape.go:26", after := #[{ on := 5, ground := Ground.data }, { on := 2, ground := Ground.guard }], guard := some (2, false) }) (v := undef) rfl (by kernel_rfl) (fun _ _ _ h => h) (Or.inr ⟨by rfl, rfl⟩) (trivial) ?_
  simp only [Act.put, List.setIfInBounds_toArray, List.set_cons_zero, List.set_cons_succ]
  refine wpAnyT_take (i := 7) (oi := { dst := some 12, op := Op.load 53 (Operand.tmp 11), type := 53, pos := "tape.go:26", after := #[{ on := 6, ground := Ground.data }, { on := 2, ground := Ground.guard }], guard := some (2, false) }) (v := undef) rfl (by kernel_rfl) (fun _ _ _ h => h) (Or.inr ⟨by rfl, rfl⟩) (trivial) ?_
  simp only [Act.put, List.setIfInBounds_toArray, List.set_cons_zero, List.set_cons_succ]
  refine wpAnyT_take (i := 8) (oi := { dst := some 13, op := Op.call { callee := Callee.builtin Builtin.len, args := #[Operand.tmp 12], argTypes := #[53] }, type := 3, pos := "tape.go:26", after := #[{ on := 7, ground := Ground.data }, { on := 2, ground := Ground.guard }], guard := some (2, false) }) (v := undef) rfl (by kernel_rfl) (fun _ _ _ h => h) (Or.inr ⟨by rfl, rfl⟩) (trivial) ?_
  simp only [Act.put, List.setIfInBounds_toArray, List.set_cons_zero, List.set_cons_succ]
  refine wpAnyT_take (i := 9) (oi := { dst := some 14, op := Op.load 30 (Operand.tmp 3), type := 30, pos := "tape.go:26", after := #[{ on := 2, ground := Ground.guard }], guard := some (2, false) }) (v := undef) rfl (by kernel_rfl) (fun _ _ _ h => h) (Or.inr ⟨by rfl, rfl⟩) (trivial) ?_
  simp only [Act.put, List.setIfInBounds_toArray, List.set_cons_zero, List.set_cons_succ]
  refine wpAnyT_take (i := 10) (oi := { dst := some 15, op := Op.call { callee := Callee.value (Operand.func 23), args := #[Operand.tmp 13, Operand.tmp 14], argTypes := #[3, 30] }, type := 4, pos := "tape.go:26", after := #[{ on := 8, ground := Ground.data }, { on := 9, ground := Ground.data }, { on := 2, ground := Ground.chain }, { on := 2, ground := Ground.guard }], guard := some (2, false) }) (v := undef) rfl (by kernel_rfl) (fun _ _ _ h => h) (Or.inr ⟨by rfl, rfl⟩) (trivial) ?_
  simp only [Act.put, List.setIfInBounds_toArray, List.set_cons_zero, List.set_cons_succ]
  refine wpAnyT_take (i := 11) (oi := { dst := some 16, op := Op.unOp UnOp.not 4 (Operand.tmp 15), type := 4, pos := "tape.go:26", after := #[{ on := 10, ground := Ground.data }, { on := 2, ground := Ground.guard }], guard := some (2, false) }) (v := undef) rfl (by kernel_rfl) (fun _ _ _ h => h) (Or.inr ⟨by rfl, rfl⟩) (trivial) ?_
  simp only [Act.put, List.setIfInBounds_toArray, List.set_cons_zero, List.set_cons_succ]
  refine wpAnyT_one (i := 12) (o := { dst := some 17, op := Op.pick (Operand.tmp 7) (Operand.const (Value.bool true)) (Operand.tmp 16), type := 4, pos := "tape.go:26", after := #[{ on := 2, ground := Ground.data }, { on := 11, ground := Ground.data }], guard := none }) (by kernel_rfl) rfl (fun K hK => ?_)
  go_simp
  refine hK.out _ _ (fun h => absurd h (by decide)) ?_
  clear hK
  try simp only [Act.put]
  refine wpAnyT_done (by kernel_rfl) ?_ _
  have FIN := hid (below_step G0.out GB.out)
  clear GB G0
  go_wp2
  go_ret
  exact ⟨rfl, FIN.out⟩
end Go.Proofs.Ytbalcjjeakdjkaa
