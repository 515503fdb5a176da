/-
  QAw25ToPn25: Aw25, Nm25, Lp25, Pn25, joined.
-/
import Derived.Test.YtdfnehngffajiabDoorQCp25ToLib25
import Derived.Test.YtdfnehngffajiabDoorQLn25ToTo25
import Derived.Test.YtdfnehngffajiabDoorQRt25ToLq25
import Derived.Test.YtdfnehngffajiabDoorQTp25
import Derived.Test.YtdfnehngffajiabDoorQCw25
import Derived.Test.YtdfnehngffajiabDoorQPq25

/- Aw25 -/
namespace Go.Proofs.YtdfnehngffajiabDoor
open Go.RowKit
set_option linter.unusedVariables false

abbrev sA : ByteArray := ⟨#[195, 169, 32, 55]⟩
theorem chA0 : chS sA 0 = (233, 2) := by decide +kernel
theorem chA2 : chS sA 2 = (32, 1) := by decide +kernel
theorem chA3 : chS sA 3 = (55, 1) := by decide +kernel
theorem psA0 : ps sA 0 1 = 2 := by
  show 0 + (chS sA 0).2 = 2
  rw [chA0]
  rfl
theorem psA3 : ps sA 3 1 = 4 := by
  show 3 + (chS sA 3).2 = 4
  rw [chA3]
  rfl
theorem runA0 : RunE sA 0 false 1 := by
  refine ⟨fun j hj => ?_, fun j hj => ?_, ?_⟩
  · obtain rfl : j = 0 := by omega
    show 0 < 4 ∧ (chS sA 0).2 ≠ 0
    rw [chA0]
    exact ⟨by omega, by simp⟩
  · obtain rfl : j = 0 := by omega
    show okC false (chS sA 0).1 = true
    rw [chA0]
    decide
  · rw [psA0, chA2]
    intro q
    exact absurd q.2.2 (by decide)
theorem runA3 : RunE sA 3 true 1 := by
  refine ⟨fun j hj => ?_, fun j hj => ?_, ?_⟩
  · obtain rfl : j = 0 := by omega
    show 3 < 4 ∧ (chS sA 3).2 ≠ 0
    rw [chA3]
    exact ⟨by omega, by simp⟩
  · obtain rfl : j = 0 := by omega
    show okC true (chS sA 3).1 = true
    rw [chA3]
    decide
  · rw [psA3]
    intro q
    exact absurd q.1 (by show ¬ 4 < 4; omega)
theorem tknA {g : ByteArray → Int} (hg : g ⟨#[55]⟩ = 0) : Tkn sA g 0 1 [⟨2, ⟨#[195, 169]⟩, 1⟩, ⟨1, ⟨#[55]⟩, 3⟩] 0 0 := by
  have x2 : sA.extract 0 2 = ⟨#[195, 169]⟩ := by rfl
  have x4 : sA.extract 3 4 = ⟨#[55]⟩ := by rfl
  have s0 : sp25 sA g 0 1 = .go 2 2 [⟨2, ⟨#[195, 169]⟩, 1⟩] := by
    unfold sp25
    rw [chA0, runK_eq runA0, psA0, x2, if_neg (by show ¬ ¬ 0 < 4; omega), if_neg (by simp), if_neg (by decide), if_neg (by simp), if_neg (by decide), if_pos (by decide), if_neg (by omega)]
    rfl
  have s2 : sp25 sA g 2 2 = .go 3 3 [] := by
    unfold sp25
    rw [chA2, if_neg (by show ¬ ¬ 2 < 4; omega), if_neg (by simp), if_pos (by decide)]
    rfl
  have s3 : sp25 sA g 3 3 = .go 4 4 [⟨1, ⟨#[55]⟩, 3⟩] := by
    unfold sp25
    rw [chA3, runK_eq runA3, psA3, x4, if_neg (by show ¬ ¬ 3 < 4; omega), if_neg (by simp), if_neg (by decide), if_neg (by simp), if_pos (by decide), if_pos hg]
    rfl
  have s4 : sp25 sA g 4 4 = .stop 0 0 := by
    unfold sp25
    rw [if_pos (by show ¬ 4 < 4; omega)]
  have t := Tkn.go s0 (Tkn.go s2 (Tkn.go s3 (Tkn.stop s4)))
  simpa using t
set_option maxRecDepth 100000 in
set_option maxHeartbeats 1600000 in
theorem awake25 {g : ByteArray → Int} (hg : g ⟨#[55]⟩ = 0) {w : World} (PT : Calls Tryd.prog 6 #[.string sA] w (TokD sA g w)) :
    Calls Tryd.prog 5 #[] w (Well25 w) := by
  have HT := hid PT
  have HG := hid hg
  clear PT hg
  unfold Well25
  go_enter Tryd.func5, Tryd.ntmps5
  go_wp2_with fail
  refine HT.out.mono ?_
  rintro e w1 ⟨v, L, c, f, rfl, ht, hs, hb⟩
  obtain ⟨rfl, rfl, rfl⟩ := tkn_one ht (tknA HG.out)
  have HB := hid hb
  obtain ⟨a, cap, rfl⟩ := hs.form
  obtain ⟨gb, rfl, _, c0, c1, c2⟩ := hs.at (j := 1) (by simp)
  dsimp only [List.length_cons, List.length_nil, List.getElem_cons_succ, List.getElem_cons_zero, Nat.one_mul, Nat.reduceAdd] at c0 c1 c2 ⊢
  clear HT HG ht hs hb
  go_wp2
  go_ret
  exact ⟨rfl, HB.out⟩
end Go.Proofs.YtdfnehngffajiabDoor

/- Nm25 -/
namespace Go.Proofs.YtdfnehngffajiabDoor
open Go.RowKit
set_option linter.unusedVariables false

end Go.Proofs.YtdfnehngffajiabDoor

/- Lp25 -/
namespace Go.Proofs.YtdfnehngffajiabDoor
open Go.RowKit
set_option linter.unusedVariables false

/-- A number's error, by the program's own look. -/
def gP (x : ByteArray) : Int := if okN x = true then 0 else 7
theorem grP_own (s : ByteArray) : GrP s gP := fun b j _ _ _ _ => by
  unfold gP
  split <;> simp [*]
theorem awake_now {w : World} (hm : MaxL w) : Calls Tryd.prog 5 #[] w (Well25 w) :=
  awake25 (g := gP) (by unfold gP okN; decide +kernel) (tokens25p w hm (by show 4 ≤ _; omega) (grP_own _))
end Go.Proofs.YtdfnehngffajiabDoor

/- Pn25 -/
namespace Go.Proofs.YtdfnehngffajiabDoor
open Go.RowKit
set_option linter.unusedVariables false

def sp1 : ByteArray := ⟨#[32]⟩
def spff : ByteArray := ⟨#[32, 255]⟩
def nb1 : ByteArray := ⟨#[194, 160]⟩
def x1 : ByteArray := ⟨#[120]⟩
def one1 : ByteArray := ⟨#[49]⟩
def padP (b : Bool) : ByteArray := if b then nb1 else sp1
def letB : Nat → ByteArray
  | 0 => ⟨#[97]⟩
  | 1 => ⟨#[90]⟩
  | 2 => ⟨#[95]⟩
  | 3 => ⟨#[48]⟩
  | 4 => ⟨#[57]⟩
  | 5 => ⟨#[195, 169]⟩
  | 6 => ⟨#[202, 175]⟩
  | 7 => ⟨#[205, 191]⟩
  | 8 => ⟨#[207, 191]⟩
  | _ => ⟨#[55]⟩
def numJ (j : Nat) : Bool := j == 2 || j == 3 || j == 4 || j == 9
theorem pad_ok (b : Bool) : Ch1 (padP b) ∧ blkS (chS (padP b) 0).1 = true := by
  cases b <;> refine ⟨⟨by decide, ?_⟩, ?_⟩ <;> decide +kernel
theorem x_ok : (Ch1 x1 ∧ okC false (chS x1 0).1 = true) ∧ letS (chS x1 0).1 = true ∧ digS (chS x1 0).1 = false ∧ blkS (chS x1 0).1 = false ∧ (chS x1 0).1 ≠ 35 := by
  refine ⟨⟨⟨by decide, ?_⟩, ?_⟩, ?_, ?_, ?_, ?_⟩ <;> decide +kernel
theorem one_ok : (Ch1 one1 ∧ okC true (chS one1 0).1 = true) ∧ digS (chS one1 0).1 = true ∧ blkS (chS one1 0).1 = false ∧ (chS one1 0).1 ≠ 35 := by
  refine ⟨⟨⟨by decide, ?_⟩, ?_⟩, ?_, ?_, ?_⟩ <;> decide +kernel
theorem let_ok {j : Nat} (h : j < 10) : Ch1 (letB j) ∧ okC false (chS (letB j) 0).1 = true := by
  obtain rfl | rfl | rfl | rfl | rfl | rfl | rfl | rfl | rfl | rfl : j = 0 ∨ j = 1 ∨ j = 2 ∨ j = 3 ∨ j = 4 ∨ j = 5 ∨ j = 6 ∨ j = 7 ∨ j = 8 ∨ j = 9 := by omega
  all_goals (refine ⟨⟨by decide, ?_⟩, ?_⟩ <;> decide +kernel)
theorem num_ok {j : Nat} (h : j < 10) (hn : numJ j = true) : Ch1 (letB j) ∧ okC true (chS (letB j) 0).1 = true := by
  obtain rfl | rfl | rfl | rfl | rfl | rfl | rfl | rfl | rfl | rfl : j = 0 ∨ j = 1 ∨ j = 2 ∨ j = 3 ∨ j = 4 ∨ j = 5 ∨ j = 6 ∨ j = 7 ∨ j = 8 ∨ j = 9 := by omega
  all_goals first | (exact absurd hn (by decide)) | (refine ⟨⟨by decide, ?_⟩, ?_⟩ <;> decide +kernel)
theorem let_two {j : Nat} : (letB j).size ≤ 2 := by
  match j with
  | 0 | 1 | 2 | 3 | 4 | 5 | 6 | 7 | 8 => decide
  | j + 9 => exact (by decide : (⟨#[55]⟩ : ByteArray).size ≤ 2)
theorem num_one {j : Nat} (h : j < 10) (hn : numJ j = true) : (letB j).size = 1 := by
  obtain rfl | rfl | rfl | rfl | rfl | rfl | rfl | rfl | rfl | rfl : j = 0 ∨ j = 1 ∨ j = 2 ∨ j = 3 ∨ j = 4 ∨ j = 5 ∨ j = 6 ∨ j = 7 ∨ j = 8 ∨ j = 9 := by omega
  all_goals first | (exact absurd hn (by decide)) | rfl
theorem sp_end (n : Bool) : ¬ (0 < sp1.size ∧ (chS sp1 0).2 ≠ 0 ∧ okC n (chS sp1 0).1 = true) := fun h => by
  have : okC n (chS sp1 0).1 = false := by cases n <;> decide +kernel
  rw [this] at h
  exact absurd h.2.2 (by decide)
theorem ff_end (n : Bool) : ¬ (0 < spff.size ∧ (chS spff 0).2 ≠ 0 ∧ okC n (chS spff 0).1 = true) := fun h => by
  have : okC n (chS spff 0).1 = false := by cases n <;> decide +kernel
  rw [this] at h
  exact absurd h.2.2 (by decide)
theorem nil_end (n : Bool) : ¬ (0 < (⟨#[]⟩ : ByteArray).size ∧ (chS ⟨#[]⟩ 0).2 ≠ 0 ∧ okC n (chS ⟨#[]⟩ 0).1 = true) := fun h => absurd h.1 (by decide)
theorem sp_go {a : ByteArray} {g : ByteArray → Int} {c : Nat} {r : ByteArray} (h : chS r 0 = (32, 1)) (h0 : 0 < r.size) : sp25 (a ++ r) g a.size c = .go (a.size + 1) (c + 1) [] := by
  have e := @chS_right a r 0 h0
  rw [Nat.add_zero, h] at e
  unfold sp25
  rw [if_neg (show ¬ ¬ a.size < (a ++ r).size by rw [app_size]; omega), e, if_neg (by decide), if_pos (by decide)]
theorem sp_stop {s : ByteArray} {g : ByteArray → Int} {c : Nat} : sp25 s g s.size c = .stop 0 0 := by
  unfold sp25
  rw [if_pos (by omega)]
/-- A name behind which a blank stands. -/
theorem tkn_name {L : List ByteArray} {g : ByteArray → Int} (h : ∀ q ∈ L, Ch1 q ∧ okC false (chS q 0).1 = true) :
    Tkn (catB (x1 :: L) ++ sp1) g 0 1 (if 32 < (catB (x1 :: L)).size then [] else [⟨2, catB (x1 :: L), 1⟩]) (if 32 < (catB (x1 :: L)).size then 1 else 0) (if 32 < (catB (x1 :: L)).size then 17 else 0) := by
  obtain ⟨x0, x2, x3, x4, x5⟩ := x_ok
  have e := sp25_name (r := sp1) (g := g) (p := x1) (L := L) (fun q hq => by
    rcases List.mem_cons.1 hq with rfl | hq
    · exact x0
    · exact h q hq) x2 x3 x4 x5 (sp_end false)
  by_cases q : 32 < (catB (x1 :: L)).size
  · rw [if_pos q] at e ⊢
    rw [if_pos q, if_pos q]
    exact Tkn.stop e
  · rw [if_neg q] at e ⊢
    rw [if_neg q, if_neg q]
    have s2 : sp25 (catB (x1 :: L) ++ sp1) g ((catB (x1 :: L)).size + 1) (1 + (L.length + 1) + 1) = .stop 0 0 := by
      have : (catB (x1 :: L)).size + 1 = (catB (x1 :: L) ++ sp1).size := by rw [app_size]; rfl
      rw [this]
      exact sp_stop
    have t := Tkn.go e (Tkn.go (sp_go (by decide +kernel) (by decide)) (Tkn.stop s2))
    simpa using t
/-- A number behind which a blank and a bad byte stand. -/
theorem tkn_numff {L : List ByteArray} {g : ByteArray → Int} (h : ∀ q ∈ L, Ch1 q ∧ okC true (chS q 0).1 = true) :
    Tkn (catB (one1 :: L) ++ spff) g 0 1 [] (if g (catB (one1 :: L)) = 0 then ((L.length + 3 : Nat) : Int) else 1) (if g (catB (one1 :: L)) = 0 then 12 else 7) := by
  obtain ⟨x0, x3, x4, x5⟩ := one_ok
  have e := sp25_num (r := spff) (g := g) (p := one1) (L := L) (fun q hq => by
    rcases List.mem_cons.1 hq with rfl | hq
    · exact x0
    · exact h q hq) x3 x4 x5 (ff_end true)
  by_cases q : g (catB (one1 :: L)) = 0
  · rw [if_pos q] at e
    rw [if_pos q, if_pos q]
    have s2 : sp25 (catB (one1 :: L) ++ spff) g ((catB (one1 :: L)).size + 1) (1 + (L.length + 1) + 1) = .stop ((L.length + 3 : Nat) : Int) 12 := by
      have c := @chS_right (catB (one1 :: L)) spff 1 (by decide)
      have c1 : chS spff 1 = (0, 0) := by decide +kernel
      rw [c1] at c
      unfold sp25
      rw [if_neg (show ¬ ¬ (catB (one1 :: L)).size + 1 < (catB (one1 :: L) ++ spff).size by rw [app_size]; show ¬ ¬ _ < _ + 2; omega), c, if_pos rfl, show 1 + (L.length + 1) + 1 = L.length + 3 by omega]
    have t := Tkn.go e (Tkn.go (sp_go (by decide +kernel) (by decide)) (Tkn.stop s2))
    simpa using t
  · rw [if_neg q] at e
    rw [if_neg q, if_neg q]
    exact Tkn.stop e
/-- A number that stands alone. -/
theorem tkn_num {L : List ByteArray} {g : ByteArray → Int} (h : ∀ q ∈ L, Ch1 q ∧ okC true (chS q 0).1 = true) (hg : g (catB (one1 :: L)) = 0) : Tkn (catB (one1 :: L)) g 0 1 [⟨1, catB (one1 :: L), 1⟩] 0 0 := by
  obtain ⟨x0, x3, x4, x5⟩ := one_ok
  have e := sp25_num (r := ⟨#[]⟩) (g := g) (p := one1) (L := L) (fun q hq => by
    rcases List.mem_cons.1 hq with rfl | hq
    · exact x0
    · exact h q hq) x3 x4 x5 (nil_end true)
  rw [if_pos hg, app_nil] at e
  have t := Tkn.go e (Tkn.stop sp_stop)
  simpa using t
end Go.Proofs.YtdfnehngffajiabDoor
