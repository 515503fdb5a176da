/-
  Bs25: tokens of two texts with a blank between, in numbers.
-/
import Derived.Test.YtdfnehngffajiaaDoorTn25
import Derived.Test.YtdfnehngffajiaaDoorLq25
namespace Go.Proofs.YtdfnehngffajiaaDoor
open Go.RowKit
set_option linter.unusedVariables false

/-- One blank byte. -/
def gapB (tab : Bool) : ByteArray := if tab then ⟨#[9]⟩ else ⟨#[32]⟩
theorem gap_size (tab : Bool) : (gapB tab).size = 1 := by cases tab <;> rfl
theorem gap_by (tab : Bool) : byS (gapB tab) 0 = (if tab then 9 else 32) := by cases tab <;> rfl
theorem gap_ch (tab : Bool) : chS (gapB tab) 0 = ((if tab then 9 else 32), 1) := by cases tab <;> decide +kernel
/-- In a text behind which a blank stands, no character goes on over its end. -/
theorem chS_gap {a b : ByteArray} {tab : Bool} {i : Nat} (hi : i < a.size) : chS (a ++ (gapB tab ++ b)) i = chS a i := by
  have hgs := gap_size tab
  have hsz : (a ++ (gapB tab ++ b)).size = a.size + (1 + b.size) := by rw [app_size, app_size, hgs]
  have hgap : byS (a ++ (gapB tab ++ b)) a.size < 128 := by
    have := @byS_right a (gapB tab ++ b) 0
    rw [Nat.add_zero] at this
    rw [this, byS_left (by omega), gap_by]
    split <;> omega
  have hb0 : byS (a ++ (gapB tab ++ b)) i = byS a i := byS_left hi
  have hi2 : i < (a ++ (gapB tab ++ b)).size := by omega
  by_cases hc : (chS a i).2 = 0
  · have z : chS a i = (0, 0) := by
      rcases chS_form hi with q | ⟨q1, q2, q3, q4, q5, q6⟩
      · exact q
      · rw [q5] at hc; exact absurd hc q1
    rw [z]
    by_cases h0 : (nxS (byS a i)).1 = 0
    · exact chS_none (.inl (by rw [hb0]; exact h0)) hi2
    by_cases h1 : a.size < i + (nxS (byS a i)).1
    · refine chS_none (.inr (.inr ⟨a.size - i, by omega, by rw [hb0]; omega, fun q => ?_⟩)) hi2
      unfold conS at q
      rw [show i + (a.size - i) = a.size by omega] at q
      omega
    by_cases h2 : ∃ k, 1 ≤ k ∧ k < (nxS (byS a i)).1 ∧ ¬ conS a (i + k)
    · obtain ⟨k, k1, k2, k3⟩ := h2
      refine chS_none (.inr (.inr ⟨k, k1, by rw [hb0]; exact k2, fun q => k3 ?_⟩)) hi2
      unfold conS at q ⊢
      rw [byS_left (by omega)] at q
      exact q
    have h2' : ∀ k, 1 ≤ k → k < (nxS (byS a i)).1 → conS a (i + k) := fun k x y => Classical.byContradiction fun q => h2 ⟨k, x, y, q⟩
    obtain ⟨s1, s2⟩ := chS_some h0 (by omega) h2'
    have ho : offS (acS a i (nxS (byS a i)).1) (nxS (byS a i)).2.2 := Classical.byContradiction fun q => h0 ((s2 q).2.symm.trans hc)
    have e := acS_congr (s := a ++ (gapB tab ++ b)) (t := a) (i := i) (j := i) (nxS (byS a i)).1 (fun k hk => byS_left (by omega))
    have g := @chS_some (a ++ (gapB tab ++ b)) i (by rw [hb0]; exact h0) (by rw [hb0]; omega) (by
      rw [hb0]
      intro k k1 k2
      have := h2' k k1 k2
      unfold conS at this ⊢
      rw [byS_left (by omega)]
      exact this)
    rw [hb0, e] at g
    exact g.1 ho
  · exact chS_left hi hc
theorem chS_gapAt {a b : ByteArray} {tab : Bool} : chS (a ++ (gapB tab ++ b)) a.size = ((if tab then 9 else 32), 1) := by
  have hgs := gap_size tab
  have := @chS_right a (gapB tab ++ b) 0 (by rw [app_size]; omega)
  rw [Nat.add_zero] at this
  rw [this, chS_left (by omega) (by rw [gap_ch]; simp), gap_ch]
theorem ps_gap {a b : ByteArray} {tab : Bool} {i k : Nat} (hi : i ≤ a.size) (h : gdS a i k) : ∀ j, j ≤ k → ps (a ++ (gapB tab ++ b)) i j = ps a i j
  | 0, _ => rfl
  | j + 1, hj => by
    have ih := ps_gap (b := b) (tab := tab) hi h j (by omega)
    show ps (a ++ (gapB tab ++ b)) i j + (chS (a ++ (gapB tab ++ b)) (ps (a ++ (gapB tab ++ b)) i j)).2 = ps a i j + (chS a (ps a i j)).2
    rw [ih, chS_gap (h j (by omega)).1]
theorem runE_gap {a b : ByteArray} {tab : Bool} {i k : Nat} {n : Bool} (hi : i ≤ a.size) (h : RunE a i n k) : RunE (a ++ (gapB tab ++ b)) i n k := by
  obtain ⟨h1, h2, h3⟩ := h
  have p := ps_gap (b := b) (tab := tab) hi h1
  have hsz : (a ++ (gapB tab ++ b)).size = a.size + (1 + b.size) := by rw [app_size, app_size, gap_size]
  refine ⟨fun j hj => ?_, fun j hj => ?_, ?_⟩
  · rw [p j (by omega), chS_gap (h1 j hj).1]
    exact ⟨by have := (h1 j hj).1; omega, (h1 j hj).2⟩
  · rw [p j (by omega), chS_gap (h1 j hj).1]
    exact h2 j hj
  · rw [p k (Nat.le_refl _)]
    intro q
    by_cases z : ps a i k < a.size
    · rw [chS_gap z] at q
      exact h3 ⟨z, q.2⟩
    · have := (h1.le hi).1
      rw [show ps a i k = a.size by omega, chS_gapAt] at q
      have := q.2.2
      revert this
      cases tab <;> cases n <;> decide
theorem runK_gap {a b : ByteArray} {tab n : Bool} {i : Nat} (hi : i ≤ a.size) : runK (a ++ (gapB tab ++ b)) i n = runK a i n ∧ ps (a ++ (gapB tab ++ b)) i (runK a i n) = ps a i (runK a i n) ∧ ps a i (runK a i n) ≤ a.size ∧ gdS a i (runK a i n) := by
  obtain ⟨k, hk⟩ := runE_ex a n hi
  rw [runK_eq hk, runK_eq (runE_gap (b := b) (tab := tab) hi hk)]
  exact ⟨rfl, ps_gap hi hk.1 k (Nat.le_refl _), (hk.1.le hi).1, hk.1⟩
/-- Within the first text all goes as if it stood alone. -/
theorem sp25_gap {a b : ByteArray} {tab : Bool} {g : ByteArray → Int} {i c : Nat} (hi : i < a.size) (hno : (chS a i).1 ≠ 35) : sp25 (a ++ (gapB tab ++ b)) g i c = sp25 a g i c := by
  have hsz : (a ++ (gapB tab ++ b)).size = a.size + (1 + b.size) := by rw [app_size, app_size, gap_size]
  obtain ⟨r1, r2, r3, _⟩ := @runK_gap a b tab true i (Nat.le_of_lt hi)
  obtain ⟨q1, q2, q3, _⟩ := @runK_gap a b tab false i (Nat.le_of_lt hi)
  unfold sp25
  rw [chS_gap hi, r1, r2, q1, q2, ext_left r3, ext_left q3, if_neg (show ¬ ¬ i < (a ++ (gapB tab ++ b)).size by omega), if_neg (show ¬ ¬ i < a.size by omega), if_neg hno, if_neg hno]
end Go.Proofs.YtdfnehngffajiaaDoor
