/-
  ExtPure: the greatest common divisor with its multipliers, in numbers.
-/
import Derived.Test.YtcceoildbnoliaaGreatQTailToMWord
namespace Go.Proofs.YtcceoildbnoliaaGreat
open Go.RowKit
set_option linter.unusedVariables false

end Go.Proofs.YtcceoildbnoliaaGreat
