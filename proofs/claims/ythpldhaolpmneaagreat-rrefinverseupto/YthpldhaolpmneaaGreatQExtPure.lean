/-
  ExtPure: the greatest common divisor with its multipliers, in numbers.
-/
import Derived.Test.YthpldhaolpmneaaGreatQTailToMWord
namespace Go.Proofs.YthpldhaolpmneaaGreat
open Go.RowKit
set_option linter.unusedVariables false

end Go.Proofs.YthpldhaolpmneaaGreat
