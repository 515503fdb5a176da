/-
  Al25: the law's upTo and LexerAll, given what the calls answer; LexerNames, given awake.
-/
import Derived.Test.YtdfnehngffajiaaRt25
namespace Go.Proofs.Ytdfnehngffajiaa
open Go.RowKit
set_option linter.unusedVariables false

/-- A script: its steps by their places. -/
def Script25 (w : World) (a : Option Addr) (len cap : Nat) (s : Nat → Int × ByteArray) : Prop :=
  len ≤ cap ∧ cap ≤ 35184372088832 ∧ (∀ k, k < len → (s k).2.size ≤ 1048576) ∧
  (len = 0 ∨ ∃ b off, a = some ⟨b, off, none⟩ ∧ b < w.heap.size ∧ ∀ k, k < len → w.cell? ⟨b, off + k * 2, none⟩ = some (.int .i64 (s k).1) ∧ w.cell? ⟨b, off + k * 2 + 1, none⟩ = some (.string (s k).2))
end Go.Proofs.Ytdfnehngffajiaa
