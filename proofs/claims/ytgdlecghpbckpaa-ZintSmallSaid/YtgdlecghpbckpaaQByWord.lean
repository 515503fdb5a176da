/-
  ByWord: the contract of wordByWord.
-/
import Derived.Test.YtgdlecghpbckpaaQTrim
namespace Go.Proofs.Ytgdlecghpbckpaa
open Go.RowKit
set_option linter.unusedVariables false

theorem zeros_head {zs : List Int} {n j : Nat} (h : zs.drop n = List.replicate (j + 1) 0) : ∃ hn : n < zs.length, zs[n] = 0 := by
  have hl := congrArg List.length h
  simp only [List.length_drop, List.length_replicate] at hl
  refine ⟨by omega, ?_⟩
  have e : zs.drop n = zs[n]'(by omega) :: zs.drop (n + 1) := List.drop_eq_getElem_cons (by omega)
  rw [e, List.replicate_succ] at h
  exact (List.cons.inj h).1
theorem zeros_tail {zs : List Int} {n j : Nat} (h : zs.drop n = List.replicate (j + 1) 0) : zs.drop (n + 1) = List.replicate j 0 := by
  rw [show n + 1 = 1 + n by omega, Nat.add_comm 1 n, ← List.drop_drop, h, List.replicate_succ]
  rfl
theorem trim_mine {B w' : _} {g : Nat} {zs : List Int} (hB : B ≤ g) (hw : WF zs) (hl : zs.length ≤ 35184372088832) (hr : Row w' g (ws zs)) : Mine B w' (.slice (some ⟨g, 0, none⟩) (wid zs) (wid zs)) (lst zs) := by
  have := wid_le zs
  refine ⟨(canon_lst hw).1, .inr ⟨g, ws (zs.drop (wid zs)), wid zs, hB, by rw [length_lst]; omega, by rw [length_lst]; exact Nat.le_refl _, by rw [length_lst]; omega, by rw [length_lst], ?_⟩⟩
  have e : ws (lst zs) ++ ws (zs.drop (wid zs)) = ws zs := by
    unfold lst ws
    rw [← List.map_append, List.take_append_drop]
  rw [e]; exact hr

/-- What a call answers that makes a number: a row of its own, in least form. -/
def Makes (w : World) (s : Int) (e : Ending) (w' : World) : Prop :=
  ∃ zs r, e = .returned r ∧ Mine w.heap.size w' r zs ∧ Canon zs ∧ val zs = s ∧ Below w.heap.size w w'

end Go.Proofs.Ytgdlecghpbckpaa
