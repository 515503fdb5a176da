/-
  Cc25: the law LexerCuts.
-/
import Derived.Test.YtdfnehngffajiaaDoorLu25
import Derived.Test.YtdfnehngffajiaaDoorLp25
import Derived.Test.YtdfnehngffajiaaDoorLi25
namespace Go.Proofs.YtdfnehngffajiaaDoor
open Go.RowKit
set_option linter.unusedVariables false

theorem lexerCuts_any {w : World} {s t : ByteArray} (hm : MaxL w) (hs : s.size ≤ 1048576) (ht : t.size ≤ 1048576) : Calls Tryd.prog 5 #[.string s, .string t] w (Well25 w) :=
  lexerCuts_of hs ht hm (awake_now hm) fun x w hx h => lines25p w hx (by omega)
end Go.Proofs.YtdfnehngffajiaaDoor
