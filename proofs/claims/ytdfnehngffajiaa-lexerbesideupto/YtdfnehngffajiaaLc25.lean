/-
  Lc25: the reference's Char.
-/
import Derived.Test.YtdfnehngffajiaaLx25
import Derived.Deep.LoopGhost
namespace Go.Proofs.Ytdfnehngffajiaa
open Go.RowKit
set_option linter.unusedVariables false

def ChD (s : ByteArray) (i : Nat) (w : World) (e : Ending) (w' : World) : Prop := e = .returned (.tuple #[.int .i64 ((chS s i).1 : Int), .int .i64 ((chS s i).2 : Int)]) ∧ w' = w
end Go.Proofs.Ytdfnehngffajiaa
