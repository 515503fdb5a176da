/-
  Divides5: the walk of ZintDivides.
-/
import Derived.Test.YtgdlecghpbckpaaDoorQDivides0
import Derived.Test.YtgdlecghpbckpaaDoorQDivides1
import Derived.Test.YtgdlecghpbckpaaDoorQDivides2
namespace Go.Proofs.YtgdlecghpbckpaaDoor
open Go.RowKit
set_option linter.unusedVariables false

theorem zintDivides_any {w : World} {va vb : Value} {A B : Int} (ha : Zi w va A 1048576) (hb : Zi w vb B 1048576) (hT : Sg w) :
    Calls Tryd.prog 4 #[va, vb] w fun e w' => e = .returned (.bool true) ∧ Below w.heap.size w w' := by
  by_cases hB : B = 0
  · exact zintDivides_zero ha hb hT hB
  · by_cases hR : A.tmod B = 0
    · exact zintDivides_none ha hb hT hB hR
    · exact zintDivides_rest ha hb hT hB hR
end Go.Proofs.YtgdlecghpbckpaaDoor
