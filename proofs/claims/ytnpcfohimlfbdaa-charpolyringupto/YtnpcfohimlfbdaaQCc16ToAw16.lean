/-
  QCc16ToAw16: Cc16, Aw16, joined.
-/
import Derived.Test.YtnpcfohimlfbdaaQGi10ToCx16
import Derived.Test.YtnpcfohimlfbdaaQProd9ToChkN9
import Derived.Test.YtnpcfohimlfbdaaQSr16ToGs16

/- Cc16 -/
namespace Go.Proofs.Ytnpcfohimlfbdaa
open Go.RowKit
set_option linter.unusedVariables false

set_option maxHeartbeats 800000 in
set_option maxRecDepth 100000 in
theorem pcsq_yes {w : World} {v : Value} {n : Nat} {zs : List Int} {k : Nat} (h : Mx w v n n zs k) : Calls Try.prog 28 #[v] w fun e w' => e = .returned (.int .i64 0) ∧ Below w.heap.size w w' := by
  have M0 := h
  obtain ⟨aa, ca, rfl, hr, hc⟩ := h.form
  obtain ⟨la, hla⟩ : ∃ la, n * n = la := ⟨_, rfl⟩
  rw [hla] at M0 ⊢
  obtain ⟨W0, hW⟩ : ∃ W0, w.alloc (matO n n (.slice aa la ca)) = W0 := ⟨_, rfl⟩
  obtain ⟨b0, sz0⟩ := alo1 w (matO n n (.slice aa la ca))
  rw [hW] at b0 sz0
  have P0 : Hid (Cel W0 w.heap.size 39 (matc n n (.slice aa la ca))) := by unfold Hid; rw [← hW]; exact Cel.new w _ _
  have HC := hid (check_yes (M0.now b0))
  have G := hid b0
  have EW := hid hW
  clear h M0 b0 sz0 hW hla
  go_enter Try.func28, Try.ntmps28
  go_wp2_with fail
  rw [EW.out]
  refine HC.out.mono ?_
  rintro e w1 ⟨rfl, b⟩
  have G1 := hid (below_step G.out b)
  have x0 := (P0.out.step b).at (i := 0) rfl
  have x1 := (P0.out.step b).at (i := 1) rfl
  clear HC b
  go_wp2
  go_ret
  exact ⟨rfl, G1.out⟩
/-- What Char answers of a matrix that came in. -/
def Chard (w : World) (n : Nat) (A : List Int) (k : Nat) (e : Ending) (w' : World) : Prop := ∃ g, e = .returned (.tuple #[.slice (some ⟨g, 0, none⟩) (n + 1) (n + 1), .int .i64 0]) ∧ w.heap.size ≤ g ∧ AllZ w' g (chL n A n) k ∧ Below w.heap.size w w'
set_option maxHeartbeats 1600000 in
set_option maxRecDepth 100000 in
theorem char_yes {w : World} {v : Value} {n : Nat} {zs : List Int} {k : Nat} (h : Mx w v n n zs k) (hk1 : 1 ≤ k) (hk : k ≤ 4000000000) : Calls Try.prog 8 #[v] w (Chard w n zs (1 + n * (66 * (k + 65)))) := by
  have M0 := h
  obtain ⟨aa, ca, rfl, hr, hc⟩ := h.form
  obtain ⟨la, hla⟩ : ∃ la, n * n = la := ⟨_, rfl⟩
  rw [hla] at M0 ⊢
  obtain ⟨W0, hW⟩ : ∃ W0, w.alloc (matO n n (.slice aa la ca)) = W0 := ⟨_, rfl⟩
  obtain ⟨b0, sz0⟩ := alo1 w (matO n n (.slice aa la ca))
  rw [hW] at b0 sz0
  have pa : Cel W0 w.heap.size 39 (matc n n (.slice aa la ca)) := by rw [← hW]; exact Cel.new w _ _
  have x0 := pa.at (i := 0) rfl
  have x1 := pa.at (i := 1) rfl
  have x2 := pa.at (i := 2) rfl
  rw [← hW] at x0 x1 x2
  have PA := hid pa
  have MA := hid (M0.now b0)
  have HC := hid (pcsq_yes (M0.now b0))
  have G := hid b0
  have EW := hid hW
  have HK1 := hid hk1
  have HK := hid hk
  clear h M0 b0 sz0 hW hla pa hk1 hk
  go_enter Try.func8, Try.ntmps8
  go_wp2_with fail
  rw [EW.out]
  clear EW x0 x1 x2
  refine HC.out.mono ?_
  rintro e w1 ⟨rfl, b⟩
  replace PA := hid (PA.out.step b)
  replace MA := hid (MA.out.now b)
  replace G := hid (below_step G.out b)
  have x0 := PA.out.at (i := 0) rfl
  have x1 := PA.out.at (i := 1) rfl
  have x2 := PA.out.at (i := 2) rfl
  have HD := hid (chr_any MA.out HK1.out HK.out)
  clear HC b
  go_wp2_with fail
  clear x0 x1 x2
  refine HD.out.mono ?_
  rintro e w2 ⟨g, rfl, hg, hz, b⟩
  have FIN : Hid (Chard w n zs (1 + n * (66 * (k + 65))) (.returned (.tuple #[.slice (some ⟨g, 0, none⟩) (n + 1) (n + 1), .int .i64 0])) w2) := ⟨g, rfl, Nat.le_trans G.out.size hg, hz, below_step G.out b⟩
  clear HD hg hz b
  go_wp2
  go_ret2
  exact FIN.out
end Go.Proofs.Ytnpcfohimlfbdaa

/- Aw16 -/
namespace Go.Proofs.Ytnpcfohimlfbdaa
open Go.RowKit
set_option linter.unusedVariables false
set_option linter.unusedSimpArgs false

theorem ch_seven : chL 1 [7] 1 = [-7, 1] := by decide +kernel
theorem zc_seven {w : World} {n : Bool} {a : Option Addr} {l c k : Nat} (h : Zc w (.agg #[.bool n, .slice a l c]) (-7) k) : n = true ∧ l = 1 ∧ Sl w.heap.size w (.slice a l c) [7] := by
  obtain ⟨m, xs, a', c', e, s0, q0, e0, z0, -⟩ := h
  simp only [Value.agg.injEq, Array.mk.injEq, List.cons.injEq, Value.bool.injEq, Value.slice.injEq, and_true] at e
  obtain ⟨rfl, rfl, rfl, rfl⟩ := e
  have c7 : Canon [7] := ⟨wf_word (by omega) WF.nil, rfl⟩
  have z7 : iv true [7] = -7 := by simp [iv, val]
  obtain ⟨rfl, rfl⟩ := iv_one (z0.trans z7.symm) q0 c7 e0 (fun e => by simp at e)
  exact ⟨rfl, rfl, s0⟩
set_option maxHeartbeats 6400000 in
set_option maxRecDepth 100000 in
theorem awake16 {w : World} : Calls Try.prog 4 #[] w (SaysB w true) := by
  have G : Hid (Below w.heap.size w w) := Below.refl _ _
  go_enter Try.func4, Try.ntmps4
  go_wp2_with fail
  refine (of16 (n := 7) (by decide) (by decide) _).mono ?_
  rintro e w1 ⟨aO, cO, rfl, zO, b⟩
  replace G := hid (below_step G.out b)
  have O := hid zO.zi
  clear zO
  clear b
  obtain ⟨V2, hV⟩ : ∃ V2, w1.alloc (duo (.bool false) (.slice aO 1 cO)) = V2 := ⟨_, rfl⟩
  obtain ⟨b, sz2⟩ := alo1 w1 (duo (.bool false) (.slice aO 1 cO))
  rw [hV] at b sz2
  replace O := hid (O.out.now b)
  replace G := hid (below_step G.out b)
  clear b sz2
  have DO : Hid (Duo V2 w1.heap.size (.bool false) (.slice aO 1 cO)) := by unfold Hid; rw [← hV]; exact Duo.new w1 _ _
  have MX := hid (mx_one DO.out O.out)
  have EV : Hid (w1.alloc (duo (.bool false) (.slice aO 1 cO)) = V2) := hV
  clear hV
  go_wp2_with fail
  rw [EV.out]
  clear EV
  refine (char_yes MX.out (by decide) (by decide)).mono ?_
  rintro e w3 ⟨g, rfl, hg, hz, b⟩
  replace O := hid (O.out.now b)
  replace DO := hid (DO.out.step b)
  replace MX := hid (MX.out.now b)
  replace G := hid (below_step G.out b)
  have AZ := hid hz
  rw [ch_seven] at AZ
  clear hz hg
  clear b
  clear O
  clear DO
  clear MX
  obtain ⟨nf, xf, adf, qf, k0, k1, -, -, zf⟩ := AZ.out.at (i := 0) (by decide)
  obtain ⟨ng, xg, adg, qg, j0, j1, -, -, zg⟩ := AZ.out.at (i := 1) (by decide)
  obtain ⟨lf, hlf⟩ : ∃ lf, xf.length = lf := ⟨_, rfl⟩
  obtain ⟨lg, hlg⟩ : ∃ lg, xg.length = lg := ⟨_, rfl⟩
  rw [hlf] at k1 zf
  rw [hlg] at j1 zg
  obtain ⟨rfl, rfl, sf⟩ := zc_seven zf
  have SF := hid sf
  have ZG : Hid (Zc w3 (.agg #[.bool ng, .slice adg lg qg]) 1 _) := zg
  simp only [Nat.zero_mul, Nat.zero_add, Nat.one_mul] at k0 k1 j0 j1
  clear zf zg sf hlf hlg
  go_upto_region 2 with fail
  have KB : Hid (∀ w', Below w3.heap.size w3 w' → w'.cell? ⟨g, 0, none⟩ = some (.bool true) ∧ w'.cell? ⟨g, 1, none⟩ = some (.slice adf 1 qf) ∧ w'.cell? ⟨g, 2, none⟩ = some (.bool ng) ∧ w'.cell? ⟨g, 2 + 1, none⟩ = some (.slice adg lg qg)) := fun w' h => ⟨cnow h k0, cnow h k1, cnow h j0, cnow h j1⟩
  refine wp_region_tail (fun w' => w'.cell? ⟨g, 0, none⟩ = some (.bool true) ∧ w'.cell? ⟨g, 1, none⟩ = some (.slice adf 1 qf) ∧ w'.cell? ⟨g, 2, none⟩ = some (.bool ng) ∧ w'.cell? ⟨g, 2 + 1, none⟩ = some (.slice adg lg qg)) 28 (by kernel_rfl) ?_
  obtain ⟨D61, hD⟩ : ∃ D61, w3.drew = D61 := ⟨_, rfl⟩
  have GB : Hid (Below w3.heap.size w3 D61) := by unfold Hid; rw [← hD]; exact (Below.refl _ _).drew
  rw [hD]
  clear hD
  refine wpAnyT_list [(0, (.int .i64 0)), (1, (.bool true)), (2, (.bool true)), (3, (.slice (some ⟨g, 0, none⟩) 2 2)), (4, (.int .i64 2)), (5, (.bool true)), (6, (.bool true)), (7, (.bool true)), (8, (.slice (some ⟨g, 0, none⟩) 2 2)), (9, (.pointer (some ⟨g, 0, none⟩))), (10, (.pointer (some ⟨g, 0, none⟩))), (11, (.bool true)), (12, (.bool true)), (13, (.bool true)), (14, (.slice (some ⟨g, 0, none⟩) 2 2)), (15, (.pointer (some ⟨g, 0, none⟩))), (16, (.pointer (some ⟨g, 1, none⟩))), (17, (.slice adf 1 qf))] 18 ?_ (KB.out _ GB.out) ?_
  · simp only [TakesV, gA9, g09, g19, Act.put, sI9, s09, s19]
    (repeat' (first | exact trivial | refine And.intro (Or.inl ⟨by rfl, ?_⟩) ?_)) <;> (intro w hSw; (try dsimp only at hSw); go_simp)
  simp only [actV, gA9, g09, g19, Act.put, sI9, s09, s19]
  refine wpAnyT_one (i := 18) (o := { dst := some 28, op := Op.buildSlice 23 1 #[(0, Operand.const (Value.int IntKind.u64 7))], type := 23, pos := "law.go:47", after := #[{ on := 13, ground := Ground.guard }], guard := some (13, true) }) (by kernel_rfl) rfl (fun K hK => ?_)
  go_simp
  obtain ⟨V62, hW⟩ : ∃ V62, D61.alloc (.cells #[.int .u64 7] 37) = V62 := ⟨_, rfl⟩
  obtain ⟨b, sz62⟩ := alo1 D61 (.cells #[.int .u64 7] 37)
  have S7 : Hid (Sl V62.heap.size V62 (.slice (some ⟨D61.heap.size, 0, none⟩) 1 1) [7]) := by unfold Hid; rw [← hW]; exact word_one D61 7 (by decide)
  rw [hW] at b sz62
  replace GB := hid (below_step GB.out b)
  rw [hW]
  clear hW b
  refine hK.out _ _ (fun _ => KB.out _ GB.out) ?_
  clear hK
  try simp only [Act.put]
  refine wpAnyT_one (i := 19) (o := { dst := some 29, op := Op.call { callee := Callee.value (Operand.func 10), args := #[Operand.tmp 27, Operand.tmp 28], argTypes := #[23, 23] }, type := 4, pos := "law.go:47", after := #[{ on := 17, ground := Ground.data }, { on := 18, ground := Ground.data }, { on := 13, ground := Ground.chain }, { on := 13, ground := Ground.guard }], guard := some (13, true) }) (by kernel_rfl) rfl (fun K hK => ?_)
  go_simp
  go_at_call 10
  refine (same_yes (SF.out.now GB.out) S7.out rfl).mono ?_
  rintro e w63 ⟨rfl, b⟩
  have lz63 := (show Below _ _ _ from b).size
  replace GB := hid (below_step GB.out b)
  clear b
  refine hK.out _ _ (fun _ => KB.out _ GB.out) ?_
  clear hK
  refine wpAnyT_list [(20, (.bool true)), (21, (.bool true)), (22, (.slice (some ⟨g, 0, none⟩) 2 2)), (23, (.pointer (some ⟨g, 2, none⟩))), (24, (.agg #[.bool ng, .slice adg lg qg]))] 5 ?_ (KB.out _ GB.out) ?_
  · simp only [TakesV, gA9, g09, g19, Act.put, sI9, s09, s19]
    (repeat' (first | exact trivial | refine And.intro (Or.inl ⟨by rfl, ?_⟩) ?_)) <;> (intro w hSw; (try dsimp only at hSw); go_simp)
  simp only [actV, gA9, g09, g19, Act.put, sI9, s09, s19]
  refine wpAnyT_one (i := 25) (o := { dst := some 35, op := Op.call { callee := Callee.value (Operand.func 9), args := #[Operand.const (Value.int IntKind.u64 1)], argTypes := #[37] }, type := 25, pos := "law.go:47", after := #[{ on := 21, ground := Ground.chain }, { on := 21, ground := Ground.guard }], guard := some (21, true) }) (by kernel_rfl) rfl (fun K hK => ?_)
  go_simp
  go_at_call 9
  refine (of16 (n := 1) (by decide) (by decide) _).mono ?_
  rintro e w64 ⟨aI, cI, rfl, zI, b⟩
  have lz64 := (show Below _ _ _ from b).size
  replace GB := hid (below_step GB.out b)
  have I1 := hid zI
  clear zI
  clear b
  refine hK.out _ _ (fun _ => KB.out _ GB.out) ?_
  clear hK
  refine wpAnyT_one (i := 26) (o := { dst := some 36, op := Op.call { callee := Callee.value (Operand.func 11), args := #[Operand.tmp 34, Operand.tmp 35], argTypes := #[25, 25] }, type := 4, pos := "law.go:47", after := #[{ on := 24, ground := Ground.data }, { on := 25, ground := Ground.data }, { on := 25, ground := Ground.chain }, { on := 21, ground := Ground.guard }], guard := some (21, true) }) (by kernel_rfl) rfl (fun K hK => ?_)
  go_simp
  go_at_call 11
  refine (sameInt16 (ZG.out.now GB.out) I1.out rfl).mono ?_
  rintro e w65 ⟨rfl, b⟩
  have lz65 := (show Below _ _ _ from b).size
  replace GB := hid (below_step GB.out b)
  clear b
  refine hK.out _ _ (fun _ => KB.out _ GB.out) ?_
  clear hK
  refine wpAnyT_list [(27, (.bool true))] 1 ?_ (KB.out _ GB.out) ?_
  · simp only [TakesV, gA9, g09, g19, Act.put, sI9, s09, s19]
    (repeat' (first | exact trivial | refine And.intro (Or.inl ⟨by rfl, ?_⟩) ?_)) <;> (intro w hSw; (try dsimp only at hSw); go_simp)
  simp only [actV, gA9, g09, g19, Act.put, sI9, s09, s19]
  refine wpAnyT_one (i := 28) (o := { dst := some 0, op := Op.assign (Operand.tmp 37), type := 4, pos := "law.go:47", after := #[{ on := 27, ground := Ground.data }, { on := 26, ground := Ground.chain }, { on := 0, ground := Ground.phase }, { on := 1, ground := Ground.phase }, { on := 2, ground := Ground.phase }, { on := 3, ground := Ground.phase }, { on := 4, ground := Ground.phase }, { on := 5, ground := Ground.phase }, { on := 6, ground := Ground.phase }, { on := 7, ground := Ground.phase }, { on := 8, ground := Ground.phase }, { on := 9, ground := Ground.phase }, { on := 10, ground := Ground.phase }, { on := 11, ground := Ground.phase }, { on := 12, ground := Ground.phase }, { on := 13, ground := Ground.phase }, { on := 14, ground := Ground.phase }, { on := 15, ground := Ground.phase }, { on := 16, ground := Ground.phase }, { on := 17, ground := Ground.phase }, { on := 18, ground := Ground.phase }, { on := 19, ground := Ground.phase }, { on := 20, ground := Ground.phase }, { on := 21, ground := Ground.phase }, { on := 22, ground := Ground.phase }, { on := 23, ground := Ground.phase }, { on := 24, ground := Ground.phase }, { on := 25, ground := Ground.phase }, { on := 26, ground := Ground.phase }, { on := 27, ground := Ground.phase }], guard := none }) (by kernel_rfl) rfl (fun K hK => ?_)
  go_simp
  refine hK.out _ _ (fun h => absurd h (by decide)) ?_
  clear hK
  try simp only [Act.put]
  refine wpAnyT_done (by kernel_rfl) ?_ _
  have FIN : Hid (SaysB w true (.returned (.bool true)) w65) := ⟨rfl, below_step G.out GB.out⟩
  clear G GB KB
  go_wp2
  go_ret
  exact FIN.out
end Go.Proofs.Ytnpcfohimlfbdaa
