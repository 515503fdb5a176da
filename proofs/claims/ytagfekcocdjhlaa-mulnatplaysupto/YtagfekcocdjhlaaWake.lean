/-
  Wake: what a program that does nothing does not answer.
-/
import Derived.Test.YtagfekcocdjhlaaSteps
namespace Go.Proofs.Ytagfekcocdjhlaa
open Go.RowKit
set_option linter.unusedVariables false

theorem wake_prod {zs : List Int} (h : Canon zs) (hv : val zs = val [3] * val [5, 0]) : zs = [15] :=
  canon_inj h ⟨wf_word (by omega) WF.nil, rfl⟩ (by rw [hv]; decide +kernel)
set_option maxHeartbeats 800000 in
theorem wake_any (w : World) : Calls Try.prog 7 #[] w fun e w' => e = .returned (.bool true) ∧ Below w.heap.size w w' := by
  go_enter Try.func7, Try.ntmps7
  go_wp2_with fail
  refine (mul_now (xs := [3]) (ys := [5, 0]) ?_ ?_ (by simp)).mono ?_
  · exact (lit_last w [3] _ rfl (wf_word (by omega) WF.nil) (by simp) 1 rfl).later _
  · have := lit_last (w.alloc (.cells #[.int .u64 3] 35)) [5, 0] #[.int .u64 5, .int .u64 0] rfl (wf_word (by omega) (wf_word (by omega) WF.nil)) (by simp) 2 rfl
    simpa using this
  rintro e w1 ⟨zs, a, cap, rfl, hsl, hc, hv, _, hb⟩
  obtain rfl := wake_prod hc hv
  have hb1 : Below w.heap.size w w1 := ((((Below.refl _ _).alloc (Nat.le_refl _) _).alloc (by simp) _).trans (hb.mono (by simp; omega)))
  obtain ⟨_, a', cap', he, hlc, _, hm⟩ := hsl
  simp only [Value.slice.injEq] at he
  obtain ⟨rfl, _, rfl⟩ := he
  rcases hm with e | ⟨b, off, rfl, _, hcell⟩
  · cases e
  have c0 : w1.cell? ⟨b, off, none⟩ = some (.int .u64 15) := hcell 0 (by simp)
  clear hcell hc hv hb
  go_wp2
  go_ret
  exact ⟨rfl, hb1⟩

end Go.Proofs.Ytagfekcocdjhlaa
