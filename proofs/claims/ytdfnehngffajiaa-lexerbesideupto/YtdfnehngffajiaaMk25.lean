/-
  Mk25: the reference's mark.
-/
import Derived.Test.YtdfnehngffajiaaLx25
import Derived.Deep.LoopGhost
namespace Go.Proofs.Ytdfnehngffajiaa
open Go.RowKit
set_option linter.unusedVariables false

/-- The text of a mark. -/
def mkS (v : Nat) : ByteArray := if v = 8722 then ⟨#[45]⟩ else if v = 215 then ⟨#[42]⟩ else if v ∈ [43, 45, 42, 94, 39, 40, 41, 91, 93, 123, 125, 44, 59, 58, 61] then ⟨#[UInt8.ofNat v]⟩ else ⟨#[]⟩
end Go.Proofs.Ytdfnehngffajiaa
