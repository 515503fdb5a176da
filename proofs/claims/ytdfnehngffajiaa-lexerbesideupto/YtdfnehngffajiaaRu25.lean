/-
  Ru25: the reference's run.
-/
import Derived.Test.YtdfnehngffajiaaCo25
import Derived.Test.YtdfnehngffajiaaCk25
namespace Go.Proofs.Ytdfnehngffajiaa
open Go.RowKit
set_option linter.unusedVariables false

/-- A character that goes on a run. -/
def okC (number : Bool) (v : Nat) : Bool := digS v || (v == 95 || (!number && letS v))
/-- The longest run from a on has k characters. -/
def RunE (s : ByteArray) (a : Nat) (number : Bool) (k : Nat) : Prop := gdS s a k ∧ (∀ j, j < k → okC number (chS s (ps s a j)).1 = true) ∧ ¬ (ps s a k < s.size ∧ (chS s (ps s a k)).2 ≠ 0 ∧ okC number (chS s (ps s a k)).1 = true)
theorem runE_one {s : ByteArray} {a k l : Nat} {b : Bool} (h : RunE s a b k) (g : RunE s a b l) : k = l := by
  obtain ⟨h1, h2, h3⟩ := h
  obtain ⟨g1, g2, g3⟩ := g
  by_cases c : k < l
  · exact absurd ⟨(g1 k c).1, (g1 k c).2, g2 k c⟩ h3
  by_cases c' : l < k
  · exact absurd ⟨(h1 l c').1, (h1 l c').2, h2 l c'⟩ g3
  omega
end Go.Proofs.Ytdfnehngffajiaa
