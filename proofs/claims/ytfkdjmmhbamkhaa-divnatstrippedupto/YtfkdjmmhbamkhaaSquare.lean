/-
  Square: the contract of Square.
-/
import Derived.Test.YtfkdjmmhbamkhaaMulAll
namespace Go.Proofs.Ytfkdjmmhbamkhaa
open Go.RowKit
set_option linter.unusedVariables false

theorem square_any {w : World} {va : Value} {xs : List Int} (ha : Sl w.heap.size w va xs) (hl : xs.length + xs.length ≤ 35184372088832) :
    Calls Try.prog 44 #[va] w (Makes w (val xs * val xs)) := by
  have HM := hid (mul_any ha ha hl)
  clear ha
  go_enter Try.func44, Try.ntmps44
  go_wp2_with fail
  refine HM.out.mono ?_
  rintro e w1 ⟨zs, r, rfl, m1, m2, m3, m4⟩
  go_wp2
  go_ret
  exact ⟨zs, r, rfl, m1, m2, m3, m4⟩
theorem square_now {w : World} {va : Value} {xs : List Int} (ha : Sl w.heap.size w va xs) (hl : xs.length + xs.length ≤ 35184372088832) :
    Calls Try.prog 44 #[va] w (Gives w (val xs * val xs) (xs.length + xs.length)) := (square_any ha hl).mono fun _ _ h => h.gives (val_mul_lt ha.1 ha.1)
end Go.Proofs.Ytfkdjmmhbamkhaa
