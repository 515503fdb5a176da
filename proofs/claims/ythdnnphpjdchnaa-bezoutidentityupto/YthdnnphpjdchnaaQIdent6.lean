/-
  Ident6: BezoutIdentity.
-/
import Derived.Test.YthdnnphpjdchnaaQIdent1
import Derived.Test.YthdnnphpjdchnaaQIdent2
namespace Go.Proofs.Ythdnnphpjdchnaa
open Go.RowKit
set_option linter.unusedVariables false

theorem bezoutIdentity_any {w : World} {va vb : Value} {A B : Int} (ha : Zi w va A 1048576) (hb : Zi w vb B 1048576) :
    Calls Try.prog 3 #[va, vb] w fun e w' => e = .returned (.bool true) ∧ Below w.heap.size w w' := by
  by_cases hB : B = 0
  · exact ident_z ha hb hB
  · by_cases hA : A = 0
    · exact ident_a ha hb hB hA
    · exact ident_n ha hb hB hA
end Go.Proofs.Ythdnnphpjdchnaa
