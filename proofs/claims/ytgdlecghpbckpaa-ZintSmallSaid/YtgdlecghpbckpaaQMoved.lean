/-
  Moved: what the calls with a number of places answer.
-/
import Derived.Test.YtgdlecghpbckpaaQMade
import Derived.Test.YtgdlecghpbckpaaQShift
namespace Go.Proofs.Ytgdlecghpbckpaa
open Go.RowKit

/-- What the three calls with a number of places answer, where they answer. -/
def Moved (w : World) (s : Nat) (k : Nat) (e : Ending) (w' : World) : Prop :=
  ∃ zs v, e = .returned (.tuple #[v, .int .i64 0]) ∧ Own w.heap.size w' v zs ∧ Canon zs ∧ vn zs = s ∧ zs.length ≤ k ∧ Below w.heap.size w w'

/-- The least form of a row of its own. -/
theorem moved_row {w w' : World} {zs : List Int} {s k n : Nat} (hw : WF zs) (hn : zs.length = n) (hm : n ≤ 35184372088832) (hr : Row w' w.heap.size (ws zs)) (hv : vn zs = s) (hk : n ≤ k) (hb : Below w.heap.size w w') :
    Moved w s k (.returned (.tuple #[.slice (some ⟨w.heap.size, 0, none⟩) (wid zs) n, .int .i64 0])) w' := by
  have hl := wid_le zs
  refine ⟨lst zs, _, rfl, ⟨(canon_lst hw).1, .inr ⟨w.heap.size, ws (zs.drop (wid zs)), Nat.le_refl _, ?_, ?_, ?_⟩⟩, canon_lst hw, ?_, ?_, hb⟩
  · rw [length_lst, length_ws]; simp; omega
  · rw [length_lst, length_ws]; congr 1; simp; omega
  · have e : ws (lst zs) ++ ws (zs.drop (wid zs)) = ws zs := by
      unfold lst ws
      rw [← List.map_append, List.take_append_drop]
    rw [e]; exact hr
  · rw [vn_lst hw]; exact hv
  · rw [length_lst]; omega
theorem moved_nil {w w' : World} {s k : Nat} (hs : s = 0) (hb : Below w.heap.size w w') : Moved w s k (.returned (.tuple #[.slice none 0 0, .int .i64 0])) w' :=
  ⟨[], _, rfl, ⟨WF.nil, .inl ⟨rfl, rfl⟩⟩, ⟨WF.nil, rfl⟩, hs.symm, Nat.zero_le _, hb⟩

end Go.Proofs.Ytgdlecghpbckpaa
