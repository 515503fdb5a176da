/-
  Residues5: the walk of ZintResidues.
-/
import Derived.Test.YtgdlecghpbckpaaDoorQResid1
import Derived.Test.YtgdlecghpbckpaaDoorQResid2
namespace Go.Proofs.YtgdlecghpbckpaaDoor
open Go.RowKit
set_option linter.unusedVariables false

theorem zintResidues_any {w : World} {va vb vc : Value} {A B M : Int} (ha : Zi w va A 1048576) (hb : Zi w vb B 1048576) (hm : Zi w vc M 1048576) (hT : Sg w) :
    Calls Tryd.prog 6 #[va, vb, vc] w fun e w' => e = .returned (.bool true) ∧ Below w.heap.size w w' := by
  by_cases hM : M = 0
  · exact zintResidues_zero ha hb hm hT hM
  · by_cases hs : cmpI (A % M + A % M) (M.natAbs : Int) ≤ 0
    · exact zintResidues_not ha hb hm hT hM hs
    · exact zintResidues_big ha hb hm hT hM hs
end Go.Proofs.YtgdlecghpbckpaaDoor
