/-
  Opl25: a world for the witness of lexer's cards.
-/
import Derived.Test.YtdfnehngffajiaaDoorOpt25
import Derived.Lib.LaidTab
namespace Go.Proofs.YtdfnehngffajiaaDoor
open Go.ChangeShapes Go.WideShapes Go.ChangeAt Go.RowKit
set_option linter.unusedVariables false

/-- The numbers of a datum. -/
def numsD : DataW Unit → List Value
  | .agg l => numsL l
  | .lit (.int k z) => [.int k z]
  | _ => []
where numsL : List (DataW Unit) → List Value
  | [] => []
  | d :: r => numsD d ++ numsL r
def putRow (h : Array Obj) (i : Nat) (l : List Value) : Array Obj := h.modify i fun
  | .cells _ t frozen => .cells l.toArray t frozen
  | o => o
/-- The settled world, the two tables holding what their initialisers lay. -/
def laidWorld25 (P : Program) (os : Os) : World :=
  { World.holding P os ⟨#[], #[], []⟩ with heap := putRow (putRow (World.holding P os ⟨#[], #[], []⟩).heap 1 (numsD Rows.laid_unicode_utf8_first)) 2 (numsD Rows.laid_unicode_utf8_acceptRanges) }
end Go.Proofs.YtdfnehngffajiaaDoor
