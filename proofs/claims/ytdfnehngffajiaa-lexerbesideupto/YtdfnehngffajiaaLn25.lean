/-
  Ln25: the lines of a text, in numbers; the reference's Lines.
-/
import Derived.Test.YtdfnehngffajiaaSt25
import Derived.Test.YtdfnehngffajiaaLx25
import Derived.Deep.LoopGhost
namespace Go.Proofs.Ytdfnehngffajiaa
open Go.RowKit
set_option linter.unusedVariables false

/-- Where the line that begins at f and whose end is found at i ends. -/
def lnT (s : ByteArray) (f i : Nat) : Nat := if f < i ∧ byS s (i - 1) = 13 then i - 1 else i
def lnC (s : ByteArray) (f i : Nat) : ByteArray := s.extract f (lnT s f i)
/-- The lines that end before i, and where the next begins. -/
def lnS (s : ByteArray) : Nat → List ByteArray × Nat
  | 0 => ([], 0)
  | i + 1 => if byS s i = 10 then ((lnS s i).1 ++ [lnC s (lnS s i).2 i], i + 1) else lnS s i
def linesS (s : ByteArray) : List ByteArray := if (lnS s s.size).2 = s.size then (lnS s s.size).1 else (lnS s s.size).1 ++ [lnC s (lnS s s.size).2 s.size]
theorem lnS_le (s : ByteArray) : ∀ i, (lnS s i).2 ≤ i ∧ (lnS s i).1.length ≤ i
  | 0 => ⟨Nat.le_refl _, Nat.le_refl _⟩
  | i + 1 => by
    have := lnS_le s i
    unfold lnS
    split
    · simp only [List.length_append, List.length_singleton]; omega
    · omega
theorem lnT_le (s : ByteArray) {f i : Nat} (h : f ≤ i) : f ≤ lnT s f i ∧ lnT s f i ≤ i := by unfold lnT; split <;> omega
theorem alo25 (w : World) (o1 : Obj) : Below w.heap.size w (w.alloc o1) ∧ (w.alloc o1).heap.size = w.heap.size + 1 := ⟨(Below.refl _ _).alloc (Nat.le_refl _) _, by simp⟩
end Go.Proofs.Ytdfnehngffajiaa
