/-
  Meets6: BezoutMeets.
-/
import Derived.Test.YthdnnphpjdchnaaQMeet1
import Derived.Test.YthdnnphpjdchnaaQMeet2
namespace Go.Proofs.Ythdnnphpjdchnaa
open Go.RowKit
set_option linter.unusedVariables false

theorem bezoutMeets_any {w : World} {v0 v1 v2 v3 v4 v5 v6 v7 : Value} {A B S T : Int} (ha : Zi w (.agg #[v0, v1]) A 1048576) (hb : Zi w (.agg #[v2, v3]) B 1048576) (hs : Zi w (.agg #[v4, v5]) S 1048576) (ht : Zi w (.agg #[v6, v7]) T 1048576) :
    Calls Try.prog 8 #[.agg #[v0, v1, v2, v3, v4, v5, v6, v7]] w fun e w' => e = .returned (.bool true) ∧ Below w.heap.size w w' := by
  by_cases hB : B = 0
  · exact meets_z1 ha hb hs ht hB
  · by_cases hT : T = 0
    · exact meets_z2 ha hb hs ht hB hT
    · by_cases hg : (Int.gcd B T : Int) ∣ S - A
      · exact meets_some ha hb hs ht hB hT hg
      · exact meets_none ha hb hs ht hB hT hg
end Go.Proofs.Ythdnnphpjdchnaa
