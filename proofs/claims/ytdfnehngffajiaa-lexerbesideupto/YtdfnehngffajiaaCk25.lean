/-
  Ck25: the reference's digit, letter, blank.
-/
import Derived.Test.YtdfnehngffajiaaLx25
namespace Go.Proofs.Ytdfnehngffajiaa
open Go.RowKit
set_option linter.unusedVariables false

def digS (v : Nat) : Bool := decide (48 ≤ v ∧ v ≤ 57)
def letS (v : Nat) : Bool := decide ((97 ≤ v ∧ v ≤ 122) ∨ (65 ≤ v ∧ v ≤ 90) ∨ v = 95 ∨ (192 ≤ v ∧ v ≤ 687 ∧ v ≠ 215 ∧ v ≠ 247) ∨ (880 ≤ v ∧ v ≤ 1023))
def blkS (v : Nat) : Bool := decide (v = 32 ∨ v = 9 ∨ v = 160)
end Go.Proofs.Ytdfnehngffajiaa
