/-
  Awake: what a program that does nothing does not answer.
-/
import Derived.Test.YtagfekcocdjhlaaDoorLen
import Derived.Test.YtagfekcocdjhlaaDoorLits
namespace Go.Proofs.YtagfekcocdjhlaaDoor
open Go.RowKit

theorem awake_sum {zs : List Int} (h : Canon zs) (hv : val zs = val [18446744073709551615] + val [1, 0]) : zs = [0, 1] :=
  canon_inj h ⟨wf_word (by omega) (wf_word (by omega) WF.nil), rfl⟩ (by rw [hv]; decide +kernel)

set_option maxHeartbeats 800000 in
theorem awake_any (w : World) : Calls Tryd.prog 5 #[] w fun e w' => e = .returned (.bool true) ∧ Below w.heap.size w w' := by
  go_enter Tryd.func5, Tryd.ntmps5
  go_wp2_with fail
  refine (add_any (xs := [18446744073709551615]) (ys := [1, 0]) ?_ ?_ (by simp) (by simp)).mono ?_
  · exact (lit_last w [18446744073709551615] _ rfl (wf_word (by omega) WF.nil) (by simp) 1 rfl).later _
  · have := lit_last (w.alloc (.cells #[.int .u64 18446744073709551615] 42)) [1, 0] #[.int .u64 1, .int .u64 0] rfl (wf_word (by omega) (wf_word (by omega) WF.nil)) (by simp) 2 rfl
    simpa using this
  rintro e w1 hadd
  obtain ⟨zs, v, rfl, hsl, hc, hv, _, hb⟩ := added_sl hadd
  obtain rfl := awake_sum hc hv
  have hb1 : Below w.heap.size w w1 := ((((Below.refl _ _).alloc (Nat.le_refl _) _).alloc (by simp) _).trans (hb.mono (by simp; omega)))
  clear hadd hc hv hb
  go_wp2_with fail
  refine (same_any (B := w1.heap.size + 1) (hsl.alloc (Nat.le_refl _) _ |>.mono (by omega)) (xs := [0, 1]) (ys := [0, 1]) ?_).mono ?_
  · have := lit_last w1 [0, 1] #[.int .u64 0, .int .u64 1] rfl (wf_word (by omega) (wf_word (by omega) WF.nil)) (by simp) 2 rfl
    simpa using this
  rintro e w2 ⟨rfl, n, rfl⟩
  rw [same_self]
  have hb2 : Below w.heap.size w ((w1.alloc (.cells #[.int .u64 0, .int .u64 1] 42)).drewN n) := below_drewN (hb1.alloc hb1.size _) n
  clear hsl
  generalize ((w1.alloc (.cells #[.int .u64 0, .int .u64 1] 42)).drewN n) = w2 at *
  go_wp2_with fail
  refine (bitLen_04 (B := w2.heap.size + 1) ?_).mono ?_
  · have := lit_last w2 [0, 4] #[.int .u64 0, .int .u64 4] rfl (wf_word (by omega) (wf_word (by omega) WF.nil)) (by simp) 2 rfl
    simpa using this
  rintro e w3 ⟨rfl, rfl⟩
  go_wp2
  go_ret
  exact ⟨rfl, hb2.alloc hb2.size _⟩
end Go.Proofs.YtagfekcocdjhlaaDoor
