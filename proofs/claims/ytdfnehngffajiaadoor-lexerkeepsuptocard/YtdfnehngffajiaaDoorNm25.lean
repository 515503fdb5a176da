/-
  Nm25: the law LexerNames, given awake.
-/
import Derived.Test.YtdfnehngffajiaaDoorLw25
import Derived.Test.YtdfnehngffajiaaDoorRt25
namespace Go.Proofs.YtdfnehngffajiaaDoor
open Go.RowKit
set_option linter.unusedVariables false

end Go.Proofs.YtdfnehngffajiaaDoor
