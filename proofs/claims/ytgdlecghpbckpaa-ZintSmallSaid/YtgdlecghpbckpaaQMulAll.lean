/-
  MulAll: the contract of Mul.
-/
import Derived.Test.YtgdlecghpbckpaaQMul
namespace Go.Proofs.Ytgdlecghpbckpaa
open Go.RowKit
set_option linter.unusedVariables false

theorem Makes.as {w w' : World} {s t : Int} {e : Ending} (h : Makes w s e w') (hst : s = t) : Makes w t e w' := by subst hst; exact h

/-- What comes out, as the laws want it. -/
def Gives (w : World) (s : Int) (k : Nat) (e : Ending) (w' : World) : Prop :=
  ∃ zs a cap, e = .returned (.slice a zs.length cap) ∧ Sl w'.heap.size w' (.slice a zs.length cap) zs ∧ Canon zs ∧ val zs = s ∧ zs.length ≤ k ∧ Below w.heap.size w w'
theorem Makes.gives {w w' : World} {s : Int} {k : Nat} {e : Ending} (h : Makes w s e w') (hs : s < pw k) : Gives w s k e w' := by
  obtain ⟨zs, r, rfl, m1, m2, m3, m4⟩ := h
  obtain ⟨a, cap, rfl⟩ := m1.form
  exact ⟨zs, a, cap, rfl, m1.sl, m2, m3, canon_len m2 (by rw [m3]; exact hs), m4⟩
end Go.Proofs.Ytgdlecghpbckpaa
