/-
  Co25: the reference's Columns and comment.
-/
import Derived.Test.YtdfnehngffajiaaPs25
import Derived.Test.YtdfnehngffajiaaLc25
namespace Go.Proofs.Ytdfnehngffajiaa
open Go.RowKit
set_option linter.unusedVariables false

end Go.Proofs.Ytdfnehngffajiaa
