/-
  Nil10: what nil grids answer.
-/
import Derived.Test.YtachdicdfhfoaaaQAwake10ToRows9
import Derived.Test.YtachdicdfhfoaaaQMul9
namespace Go.Proofs.Ytachdicdfhfoaaa
open Go.RowKit Go.ChangeMaps Go.MapKept
set_option linter.unusedVariables false

theorem shape_nil {w : World} : Calls Try.prog 24 #[.pointer none] w (Still w (.tuple #[.int .i64 0, .int .i64 0])) := by
  go_enter Try.func24, Try.ntmps24
  go_wp2
  go_ret2
  exact ⟨rfl, rfl⟩
theorem mul_nil1 {w : World} {v : Value} : Calls Try.prog 17 #[.pointer none, v] w (Still w (.tuple #[.pointer none, .int .i64 3])) := by
  go_enter Try.func17, Try.ntmps17
  go_wp2
  go_ret2
  exact ⟨rfl, rfl⟩
theorem mul_nil2 {w : World} {p : Addr} : Calls Try.prog 17 #[.pointer (some p), .pointer none] w (Still w (.tuple #[.pointer none, .int .i64 3])) := by
  go_enter Try.func17, Try.ntmps17
  go_wp2
  go_ret2
  exact ⟨rfl, rfl⟩
theorem add_nil1 {w : World} {v : Value} : Calls Try.prog 19 #[.pointer none, v] w (Still w (.tuple #[.pointer none, .int .i64 3])) := by
  go_enter Try.func19, Try.ntmps19
  go_wp2
  go_ret2
  exact ⟨rfl, rfl⟩
theorem add_nil2 {w : World} {p : Addr} : Calls Try.prog 19 #[.pointer (some p), .pointer none] w (Still w (.tuple #[.pointer none, .int .i64 3])) := by
  go_enter Try.func19, Try.ntmps19
  go_wp2
  go_ret2
  exact ⟨rfl, rfl⟩
theorem turn_nil {w : World} : Calls Try.prog 21 #[.pointer none] w (Still w (.pointer none)) := by
  go_enter Try.func21, Try.ntmps21
  go_wp2
  go_ret
  exact ⟨rfl, rfl⟩
theorem copy_nil {w : World} : Calls Try.prog 28 #[.pointer none] w (Still w (.pointer none)) := by
  go_enter Try.func28, Try.ntmps28
  go_wp2
  go_ret
  exact ⟨rfl, rfl⟩
theorem places_nil {w : World} : Calls Try.prog 29 #[.pointer none] w (Still w (.slice none 0 0)) := by
  go_enter Try.func29, Try.ntmps29
  go_wp2
  go_ret
  exact ⟨rfl, rfl⟩
theorem swap_nil {w : World} {i j : Int} : Calls Try.prog 12 #[.pointer none, .int .i64 i, .int .i64 j] w (Still w (.int .i64 3)) := by
  have HC := hid (hasRow_nil (w := w) (i := i))
  go_enter Try.func12, Try.ntmps12
  go_wp2_with fail
  refine HC.out.mono ?_
  rintro e w' ⟨rfl, rfl⟩
  go_wp2
  go_ret
  exact ⟨rfl, rfl⟩
theorem clear_nil {w : World} {i : Int} : Calls Try.prog 13 #[.pointer none, .int .i64 i] w (Still w (.int .i64 3)) := by
  have HC := hid (hasRow_nil (w := w) (i := i))
  go_enter Try.func13, Try.ntmps13
  go_wp2_with fail
  refine HC.out.mono ?_
  rintro e w' ⟨rfl, rfl⟩
  go_wp2
  go_ret
  exact ⟨rfl, rfl⟩
theorem set_nil {w : World} {i j : Int} {m : Bool} {a : Option Addr} {l c : Nat} : Calls Try.prog 10 #[.pointer none, .int .i64 i, .int .i64 j, .agg #[.bool m, .slice a l c]] w (Says w (.int .i64 3)) := by
  have HC := hid (hasPlace_nil (w := w.alloc (duo (.bool m) (.slice a l c))) (i := i) (j := j))
  have FIN : Hid (Says w (.int .i64 3) (.returned (.int .i64 3)) (w.alloc (duo (.bool m) (.slice a l c)))) := ⟨rfl, (Below.refl _ _).alloc (Nat.le_refl _) _⟩
  go_enter Try.func10, Try.ntmps10
  go_wp2_with fail
  refine HC.out.mono ?_
  rintro e w' ⟨rfl, rfl⟩
  go_wp2
  go_ret
  exact FIN.out
theorem addRow_nil {w : World} {i j : Int} {m : Bool} {a : Option Addr} {l c : Nat} : Calls Try.prog 11 #[.pointer none, .int .i64 i, .int .i64 j, .agg #[.bool m, .slice a l c]] w (Says w (.int .i64 3)) := by
  have HC := hid (hasRow_nil (w := w.alloc (duo (.bool m) (.slice a l c))) (i := i))
  have FIN : Hid (Says w (.int .i64 3) (.returned (.int .i64 3)) (w.alloc (duo (.bool m) (.slice a l c)))) := ⟨rfl, (Below.refl _ _).alloc (Nat.le_refl _) _⟩
  go_enter Try.func11, Try.ntmps11
  go_wp2_with fail
  refine HC.out.mono ?_
  rintro e w' ⟨rfl, rfl⟩
  go_wp2
  go_ret
  exact FIN.out
theorem get_nil {w : World} {i j : Int} : Calls Try.prog 26 #[.pointer none, .int .i64 i, .int .i64 j] w (Says w (.tuple #[.agg #[.bool false, .slice none 0 0], .int .i64 3])) := by
  obtain ⟨W0, hW⟩ : ∃ W0, w.alloc zbox = W0 := ⟨_, rfl⟩
  obtain ⟨b0, sz0⟩ := alo1 w zbox
  rw [hW] at b0 sz0
  have PB : Duo W0 w.heap.size (.bool false) (.slice none 0 0) := by rw [← hW]; exact heap_alloc_new w zbox
  have HP := hid (hasPlace_nil (w := W0) (i := i) (j := j))
  have EW := hid hW
  have P2 := hid PB
  have y0 := PB.c0
  have y1 := PB.c1
  have y2 := PB.fz 0
  have y3 := PB.fz 1
  have FIN : Hid (Says w (.tuple #[.agg #[.bool false, .slice none 0 0], .int .i64 3]) (.returned (.tuple #[.agg #[.bool false, .slice none 0 0], .int .i64 3])) ((W0.setCell ⟨w.heap.size, 0, none⟩ (.bool false)).setCell ⟨w.heap.size, 1, none⟩ (.slice none 0 0))) :=
    ⟨rfl, bset (bset b0 (by omega)) (by omega)⟩
  clear b0 hW PB sz0
  go_enter Try.func26, Try.ntmps26
  go_wp2_with fail
  rw [EW.out]
  refine HP.out.mono ?_
  rintro e w1 ⟨rfl, hw1⟩
  subst hw1
  go_wp2
  exact bodyPost_ret (zback1 Try.results26 (P2.out.set _ _) _ (by rfl) (by rfl)) rfl FIN.out
theorem dense_nil {w : World} : Calls Try.prog 14 #[.pointer none] w (Says w (.tuple #[mzero, .int .i64 3])) := by
  obtain ⟨W0, hW⟩ : ∃ W0, w.alloc mbox = W0 := ⟨_, rfl⟩
  obtain ⟨b0, sz0⟩ := alo1 w mbox
  rw [hW] at b0 sz0
  have P2 := hid (mbox_new hW)
  have EW := hid hW
  have r0 := P2.out.at (i := 0) rfl
  have r1 := P2.out.at (i := 1) rfl
  have r2 := P2.out.at (i := 2) rfl
  have f0 := P2.out.fz 0
  have f1 := P2.out.fz 1
  have f2 := P2.out.fz 2
  have FIN : Hid (Says w (.tuple #[mzero, .int .i64 3]) (.returned (.tuple #[mzero, .int .i64 3])) W0) := ⟨rfl, b0⟩
  have PF := hid P2.out
  clear b0 hW sz0
  go_enter Try.func14, Try.ntmps14
  go_wp2_with fail
  rw [EW.out]
  exact bodyPost_ret (mback1 Try.results14 PF.out _ (by rfl) (by rfl)) rfl FIN.out
end Go.Proofs.Ytachdicdfhfoaaa
