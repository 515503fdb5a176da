/-
  Lp25: the laws LexerColumns and LexerNames.
-/
import Derived.Test.YtdfnehngffajiaaTp25
import Derived.Test.YtdfnehngffajiaaAw25
import Derived.Test.YtdfnehngffajiaaNm25
import Derived.Test.YtdfnehngffajiaaCw25
namespace Go.Proofs.Ytdfnehngffajiaa
open Go.RowKit
set_option linter.unusedVariables false

/-- A number's error, by the program's own look. -/
def gP (x : ByteArray) : Int := if okN x = true then 0 else 7
theorem grP_own (s : ByteArray) : GrP s gP := fun b j _ _ _ _ => by
  unfold gP
  split <;> simp [*]
theorem awake_now {w : World} (hm : MaxL w) : Calls Try.prog 6 #[] w (Well25 w) :=
  awake25 (g := gP) (by unfold gP okN; decide +kernel) (tokens25p w hm (by show 4 ≤ _; omega) (grP_own _))
theorem lexerColumns_any {w : World} {a b : ByteArray} (hm : MaxL w) (ha : a.size ≤ 1048576) (hb : b.size ≤ 1048576) : Calls Try.prog 5 #[.string a, .string b] w (Well25 w) :=
  lexerColumns_of ha hb (awake_now hm) fun s w hs => columns25 w (by omega)
theorem lexerNames_any {w : World} (hm : MaxL w) : Calls Try.prog 3 #[] w (Well25 w) := lexerNames_of (awake_now hm)
end Go.Proofs.Ytdfnehngffajiaa
