/-
  Ac25: the law LexerAll.
-/
import Derived.Test.YtdfnehngffajiaaDoorGa25
import Derived.Test.YtdfnehngffajiaaDoorAl25
import Derived.Test.YtdfnehngffajiaaDoorTn25
import Derived.Test.YtdfnehngffajiaaDoorLp25
import Derived.Test.YtdfnehngffajiaaDoorLi25
import Derived.Test.YtdfnehngffajiaaDoorOs25
namespace Go.Proofs.YtdfnehngffajiaaDoor
open Go.RowKit
set_option linter.unusedVariables false

theorem both25_ref {s : ByteArray} (hs : s.size ≤ 1048576) : Both25 s gR :=
  both25 hs (grC_own hs) (fun w hx => lines25p w hx (by omega)) (fun w hx => tokens25p w hx (by omega) (grP_ref s)) (fun w => columns25 w (by omega))
theorem lexerAll_any {w : World} {a : Option Addr} {len cap : Nat} {s : Nat → Int × ByteArray} (hm : MaxL w) (h : Script25 w a len cap s) : Calls Tryd.prog 3 #[.slice a len cap] w (Well25 w) :=
  lexerAll_of h hm (awake_now hm) fun x hx => both25_ref hx
end Go.Proofs.YtdfnehngffajiaaDoor
