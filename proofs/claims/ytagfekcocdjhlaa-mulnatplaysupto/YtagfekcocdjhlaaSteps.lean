/-
  Steps: answers of calls within calls.
-/
import Derived.Test.YtagfekcocdjhlaaMulAll
import Derived.Test.YtagfekcocdjhlaaLits
namespace Go.Proofs.Ytagfekcocdjhlaa
open Go.RowKit
set_option linter.unusedVariables false

theorem Makes.step {w w1 w' : World} {s : Int} {e : Ending} (hb : Below w.heap.size w w1) (h : Makes w1 s e w') : Makes w s e w' := by
  obtain ⟨zs, r, rfl, m1, m2, m3, m4⟩ := h
  exact ⟨zs, r, rfl, m1.mono hb.size, m2, m3, below_step hb m4⟩
theorem added_makes {w w' : World} {s : Int} {k : Nat} {e : Ending} (h : Added w s k e w') : Makes w s e w' := by
  obtain ⟨zs, cap, r, rfl, hc, hv, hk, hl, hm, hr, hb, hs⟩ := h
  exact ⟨zs, _, rfl, ⟨hc.1, .inr ⟨_, r, cap, Nat.le_refl _, by omega, by omega, by omega, rfl, hr⟩⟩, hc, hv, hb⟩

end Go.Proofs.Ytagfekcocdjhlaa
