/-
  Back7: the law ApproxBack
-/
import Derived.Test.YtbamffggnnacaaaDoorQBack70
import Derived.Test.YtbamffggnnacaaaDoorQBack71
import Derived.Test.YtbamffggnnacaaaDoorQBack72
namespace Go.Proofs.YtbamffggnnacaaaDoor
open Go.RowKit
set_option linter.unusedVariables false

theorem approxBack_any {w : World} {F : Nat} (hF : F < 2 ^ 64) (hT : Tab w) :
    Calls Tryd.prog 4 #[.int .u64 (F : Int)] w fun e w' => e = .returned (.bool true) ∧ Below w.heap.size w w' := by
  by_cases hf : Fin7 F
  · by_cases h0 : rg F = 0
    · exact back_zero hF hT h0
    · obtain ⟨n, m, hs⟩ := spl_ex hf h0
      by_cases hn : 0 ≤ n
      · obtain ⟨k, rfl⟩ := Int.eq_ofNat_of_zero_le hn
        exact back_up hF hT hf h0 hs
      · obtain ⟨k, hk⟩ : ∃ k : Nat, n = -(k : Int) := ⟨(-n).toNat, by omega⟩
        subst hk
        exact back_dn hF hT hf h0 hs (by omega)
  · exact back_not hF hT hf
theorem approxBack_int {w : World} {x : Int} (h : (Lit.int .u64 x).wf = true) (hT : Tab w) :
    Calls Tryd.prog 4 #[.int .u64 x] w fun e w' => e = .returned (.bool true) ∧ Below w.heap.size w w' := by
  have h1 : IntKind.u64.min = 0 := rfl
  have h2 : IntKind.u64.max = 18446744073709551615 := rfl
  simp only [Lit.wf, Bool.and_eq_true, decide_eq_true_eq] at h
  obtain ⟨F, rfl⟩ := Int.eq_ofNat_of_zero_le (show 0 ≤ x by omega)
  exact approxBack_any (by omega) hT
end Go.Proofs.YtbamffggnnacaaaDoor
