/-
  Times: the contract of addTimes.
-/
import Derived.Test.YtgdlecghpbckpaaQMulw
namespace Go.Proofs.Ytgdlecghpbckpaa
open Go.RowKit
set_option linter.unusedVariables false

theorem drop_set_lt {α : Type} (L : List α) {i n : Nat} (h : i < n) (x : α) : (L.set i x).drop n = L.drop n := by
  rw [List.drop_set, if_pos h]

end Go.Proofs.Ytgdlecghpbckpaa
