/-
  SlInts: slices of ints.
-/
import Derived.Test.YtfkdjmmhbamkhaaBase
namespace Go.Proofs.Ytfkdjmmhbamkhaa
open Go.RowKit

/-- A slice of numbers. -/
def SlI (B : Nat) (w : World) (v : Value) (ps : List Int) : Prop :=
  (∀ p ∈ ps, -9223372036854775808 ≤ p ∧ p ≤ 9223372036854775807) ∧ ∃ a cap, v = .slice a ps.length cap ∧ ps.length ≤ cap ∧ cap ≤ 35184372088832 ∧
    (ps = [] ∨ ∃ b off, a = some ⟨b, off, none⟩ ∧ b < B ∧ ∀ j (h : j < ps.length), w.cell? ⟨b, off + j, none⟩ = some (.int .i64 ps[j]))
theorem SlI.now {w w' : World} {v : Value} {xs : List Int} (h : SlI w.heap.size w v xs) (hb : Below w.heap.size w w') : SlI w'.heap.size w' v xs := by
  obtain ⟨h1, a, cap, h2, h3, h4, h5⟩ := h
  refine ⟨h1, a, cap, h2, h3, h4, ?_⟩
  rcases h5 with h5 | ⟨b, off, h6, h7, h8⟩
  · exact .inl h5
  · exact .inr ⟨b, off, h6, Nat.lt_of_lt_of_le h7 hb.size, fun j hj => (hb.cell (p := ⟨b, off + j, none⟩) h7).trans (h8 j hj)⟩
end Go.Proofs.Ytfkdjmmhbamkhaa
