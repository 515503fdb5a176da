/-
  Aw25: the law's awake, given what the program's Tokens answers; LexerNames.
-/
import Derived.Test.YtdfnehngffajiaaDoorLw25
import Derived.Test.YtdfnehngffajiaaDoorTo25
namespace Go.Proofs.YtdfnehngffajiaaDoor
open Go.RowKit
set_option linter.unusedVariables false

abbrev sA : ByteArray := ⟨#[195, 169, 32, 55]⟩
theorem chA0 : chS sA 0 = (233, 2) := by decide +kernel
theorem chA2 : chS sA 2 = (32, 1) := by decide +kernel
theorem chA3 : chS sA 3 = (55, 1) := by decide +kernel
theorem psA0 : ps sA 0 1 = 2 := by
  show 0 + (chS sA 0).2 = 2
  rw [chA0]
  rfl
theorem psA3 : ps sA 3 1 = 4 := by
  show 3 + (chS sA 3).2 = 4
  rw [chA3]
  rfl
theorem runA0 : RunE sA 0 false 1 := by
  refine ⟨fun j hj => ?_, fun j hj => ?_, ?_⟩
  · obtain rfl : j = 0 := by omega
    show 0 < 4 ∧ (chS sA 0).2 ≠ 0
    rw [chA0]
    exact ⟨by omega, by simp⟩
  · obtain rfl : j = 0 := by omega
    show okC false (chS sA 0).1 = true
    rw [chA0]
    decide
  · rw [psA0, chA2]
    intro q
    exact absurd q.2.2 (by decide)
theorem runA3 : RunE sA 3 true 1 := by
  refine ⟨fun j hj => ?_, fun j hj => ?_, ?_⟩
  · obtain rfl : j = 0 := by omega
    show 3 < 4 ∧ (chS sA 3).2 ≠ 0
    rw [chA3]
    exact ⟨by omega, by simp⟩
  · obtain rfl : j = 0 := by omega
    show okC true (chS sA 3).1 = true
    rw [chA3]
    decide
  · rw [psA3]
    intro q
    exact absurd q.1 (by show ¬ 4 < 4; omega)
theorem tknA {g : ByteArray → Int} (hg : g ⟨#[55]⟩ = 0) : Tkn sA g 0 1 [⟨2, ⟨#[195, 169]⟩, 1⟩, ⟨1, ⟨#[55]⟩, 3⟩] 0 0 := by
  have x2 : sA.extract 0 2 = ⟨#[195, 169]⟩ := by rfl
  have x4 : sA.extract 3 4 = ⟨#[55]⟩ := by rfl
  have s0 : sp25 sA g 0 1 = .go 2 2 [⟨2, ⟨#[195, 169]⟩, 1⟩] := by
    unfold sp25
    rw [chA0, runK_eq runA0, psA0, x2, if_neg (by show ¬ ¬ 0 < 4; omega), if_neg (by simp), if_neg (by decide), if_neg (by simp), if_neg (by decide), if_pos (by decide), if_neg (by omega)]
    rfl
  have s2 : sp25 sA g 2 2 = .go 3 3 [] := by
    unfold sp25
    rw [chA2, if_neg (by show ¬ ¬ 2 < 4; omega), if_neg (by simp), if_pos (by decide)]
    rfl
  have s3 : sp25 sA g 3 3 = .go 4 4 [⟨1, ⟨#[55]⟩, 3⟩] := by
    unfold sp25
    rw [chA3, runK_eq runA3, psA3, x4, if_neg (by show ¬ ¬ 3 < 4; omega), if_neg (by simp), if_neg (by decide), if_neg (by simp), if_pos (by decide), if_pos hg]
    rfl
  have s4 : sp25 sA g 4 4 = .stop 0 0 := by
    unfold sp25
    rw [if_pos (by show ¬ 4 < 4; omega)]
  have t := Tkn.go s0 (Tkn.go s2 (Tkn.go s3 (Tkn.stop s4)))
  simpa using t
set_option maxRecDepth 100000 in
set_option maxHeartbeats 1600000 in
theorem awake25 {g : ByteArray → Int} (hg : g ⟨#[55]⟩ = 0) {w : World} (PT : Calls Tryd.prog 11 #[.string sA] w (TokD sA g w)) :
    Calls Tryd.prog 7 #[] w (Well25 w) := by
  have HT := hid PT
  have HG := hid hg
  clear PT hg
  unfold Well25
  go_enter Tryd.func7, Tryd.ntmps7
  go_wp2_with fail
  refine HT.out.mono ?_
  rintro e w1 ⟨v, L, c, f, rfl, ht, hs, hb⟩
  obtain ⟨rfl, rfl, rfl⟩ := tkn_one ht (tknA HG.out)
  have HB := hid hb
  obtain ⟨a, cap, rfl⟩ := hs.form
  obtain ⟨gb, rfl, _, c0, c1, c2⟩ := hs.at (j := 1) (by simp)
  dsimp only [List.length_cons, List.length_nil, List.getElem_cons_succ, List.getElem_cons_zero, Nat.one_mul, Nat.reduceAdd] at c0 c1 c2 ⊢
  clear HT HG ht hs hb
  go_wp2
  go_ret
  exact ⟨rfl, HB.out⟩
end Go.Proofs.YtdfnehngffajiaaDoor
