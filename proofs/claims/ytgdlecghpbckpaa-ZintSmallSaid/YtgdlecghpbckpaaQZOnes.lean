/-
  ZOnes: Least, Neg, Abs, Mul.
-/
import Derived.Test.YtgdlecghpbckpaaQOnes
namespace Go.Proofs.Ytgdlecghpbckpaa
open Go.RowKit
set_option linter.unusedVariables false

theorem box_ne {w' : World} {b b' i j : Nat} {u x : Value} (hne : b' ≠ b) (h : w'.cell? ⟨b, i, none⟩ = some x) : (w'.setCell ⟨b', j, none⟩ u).cell? ⟨b, i, none⟩ = some x := by
  rw [← h]
  unfold World.cell?
  rw [Below.heap_setCell w' _ u b (fun e => by simp at e; omega)]
theorem Mine.len {B : Nat} {w : World} {a : Option Addr} {l c : Nat} {zs : List Int} (h : Mine B w (.slice a l c) zs) : zs.length ≤ 35184372088832 := by
  obtain ⟨_, ⟨_, h2⟩ | ⟨g, r, cap, _, h, _⟩⟩ := h
  · subst h2; simp
  · exact h
/-- The end of a call whose last step was signed. -/
theorem gz_fin {w W0 w1 w2 : World} {n : Bool} {zs : List Int} {az : Option Addr} {cz b k : Nat} {z : Int} (m : Mine W0.heap.size w1 (.slice az zs.length cz) zs) (q : Canon zs) (hv : iv n zs = z) (hl : zs.length ≤ k) (h12 : Below w1.heap.size w1 w2) (h02 : Below W0.heap.size W0 w2) (B0 : Below w.heap.size w W0) (hb : w.heap.size ≤ b) (hB : b < W0.heap.size) :
    GivesZ w z k (.returned (.agg #[.bool (n && decide (0 < zs.length)), .slice az zs.length cz])) ((w2.setCell ⟨b, 0, none⟩ (.bool (n && decide (0 < zs.length)))).setCell ⟨b, 1, none⟩ (.slice az zs.length cz)) := by
  subst hv
  exact gz_end (zm_of (m.below h12) q hl) (below_step B0 h02) hb hB
theorem iv_val {xs ys : List Int} (n : Bool) (h : val xs = val ys) : iv n xs = iv n ys := by unfold iv; rw [h]

end Go.Proofs.Ytgdlecghpbckpaa
