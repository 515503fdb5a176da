/-
  Lp25: the laws LexerColumns and LexerNames.
-/
import Derived.Test.YtdfnehngffajiaaDoorTp25
import Derived.Test.YtdfnehngffajiaaDoorAw25
import Derived.Test.YtdfnehngffajiaaDoorNm25
import Derived.Test.YtdfnehngffajiaaDoorCw25
namespace Go.Proofs.YtdfnehngffajiaaDoor
open Go.RowKit
set_option linter.unusedVariables false

/-- A number's error, by the program's own look. -/
def gP (x : ByteArray) : Int := if okN x = true then 0 else 7
theorem grP_own (s : ByteArray) : GrP s gP := fun b j _ _ _ _ => by
  unfold gP
  split <;> simp [*]
theorem awake_now {w : World} (hm : MaxL w) : Calls Tryd.prog 7 #[] w (Well25 w) :=
  awake25 (g := gP) (by unfold gP okN; decide +kernel) (tokens25p w hm (by show 4 ≤ _; omega) (grP_own _))
end Go.Proofs.YtdfnehngffajiaaDoor
