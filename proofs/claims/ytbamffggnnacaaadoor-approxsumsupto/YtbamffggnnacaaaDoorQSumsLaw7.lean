/-
  SumsLaw7: the law ApproxSums
-/
import Derived.Test.YtbamffggnnacaaaDoorQOpenH7ToSu71
import Derived.Test.YtbamffggnnacaaaDoorQSu72
namespace Go.Proofs.YtbamffggnnacaaaDoor
open Go.RowKit
set_option linter.unusedVariables false

theorem approxSums_any {w : World} {v0 v1 v3 : Value} {xs ps qs : List Int} {X : Nat} (h0 : Sl w.heap.size w v0 xs) (hl : xs.length ≤ 1048576) (h1 : SlI w.heap.size w v1 ps) (hpl : ps.length ≤ 1048576) (hX : X < 2 ^ 64) (h3 : Sl32 w.heap.size w v3 qs) (hT : Tab w) :
    Calls Tryd.prog 5 #[.agg #[v0, v1, .int .u64 (X : Int), v3]] w fun e w' => e = .returned (.bool true) ∧ Below w.heap.size w w' := by
  by_cases h : ∀ f ∈ fl7 xs, Fin7 f
  · exact sums_all h0 hl h1 hpl hX h3 hT h
  · exact sums_not h0 hl hT h
end Go.Proofs.YtbamffggnnacaaaDoor
