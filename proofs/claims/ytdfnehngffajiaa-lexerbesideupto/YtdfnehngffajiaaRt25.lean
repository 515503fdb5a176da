/-
  Rt25: the law's right, given what the calls answer.
-/
import Derived.Test.YtdfnehngffajiaaTx25
import Derived.Test.YtdfnehngffajiaaLn25
import Derived.Test.YtdfnehngffajiaaTo25
import Derived.Test.YtdfnehngffajiaaLw25
import Derived.Test.YtdfnehngffajiaaLib25
import Derived.Deep.RegionHeld3
namespace Go.Proofs.Ytdfnehngffajiaa
open Go.RowKit
set_option linter.unusedVariables false

/-- What Lines answers. -/
def LinP (s : ByteArray) (w : World) (e : Ending) (w' : World) : Prop := ∃ v, e = .returned v ∧ Strs w.heap.size w' v (linesS s) ∧ Below w.heap.size w w'
theorem below_on25 {w0 w w' : World} (h : Below w0.heap.size w0 w) (k : Below w.heap.size w w') : Below w0.heap.size w0 w' := h.trans (k.mono h.size)
theorem below_dr25 {B : Nat} {w0 w : World} (n : Nat) (h : Below B w0 w) : Below B w0 (w.drewN n) := by
  induction n with
  | zero => exact h
  | succ n ih => exact ih.drew
theorem linesS_len (s : ByteArray) : (linesS s).length ≤ s.size + 1 := by
  have := (lnS_le s s.size).2
  unfold linesS
  split
  · omega
  · rw [List.length_append, List.length_singleton]; omega
theorem tkn_len {s : ByteArray} {g : ByteArray → Int} {i c : Nat} {L : List Tok} {a e : Int} (h : Tkn s g i c L a e) : True := trivial
end Go.Proofs.Ytdfnehngffajiaa
