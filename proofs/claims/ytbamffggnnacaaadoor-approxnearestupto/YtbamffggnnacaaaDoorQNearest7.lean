/-
  Nearest7: the law ApproxNearest
-/
import Derived.Test.YtbamffggnnacaaaDoorQNear70
import Derived.Test.YtbamffggnnacaaaDoorQNear71
namespace Go.Proofs.YtbamffggnnacaaaDoor
open Go.RowKit
set_option linter.unusedVariables false

theorem approxNearest_any {w : World} {va : Value} {A : Int} (ha : Zi w va A 1048576) (hT : Tab w) :
    Calls Tryd.prog 3 #[va] w fun e w' => e = .returned (.bool true) ∧ Below w.heap.size w w' := by
  by_cases h1 : lim7 ≤ A.natAbs
  · exact nearest_inf ha hT h1
  · by_cases h2 : A.natAbs ≤ 2 ^ 53
    · exact nearest_small ha hT h2 (by omega)
    · exact nearest_long ha hT (by omega) (by omega)
end Go.Proofs.YtbamffggnnacaaaDoor
