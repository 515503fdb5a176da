/-
  Wakes3: the law's fixed call.
-/
import Derived.Test.YtfkdjmmhbamkhaaExact
namespace Go.Proofs.Ytfkdjmmhbamkhaa
open Go.RowKit
set_option linter.unusedVariables false

theorem wake3_is {zs : List Int} {r : Int} (hc : Canon zs) (h0 : 0 ≤ r) (h1 : r < 2) (hv : val [7] = 2 * val zs + r) : zs = [3] ∧ r = 1 := by
  have e : val [7] = 7 := by simp [val]
  rw [e] at hv
  have h3 : val zs = 3 := by omega
  exact ⟨canon_inj hc ⟨wf_word (by omega) WF.nil, rfl⟩ (by rw [h3]; simp [val]), by omega⟩
set_option maxHeartbeats 800000 in
theorem wakes3_any (w : World) : Calls Try.prog 9 #[] w fun e w' => e = .returned (.bool true) ∧ Below w.heap.size w w' := by
  go_enter Try.func9, Try.ntmps9
  go_wp2_with fail
  refine (divWord_any (xs := [7]) (W := 2) ?_ (by unfold IsW wB; omega) (by omega)).mono ?_
  · exact lit_last w [7] _ rfl (wf_word (by omega) WF.nil) (by simp) 1 rfl
  rintro e w1 ⟨zs, q, r, rfl, ho, hc, hrw, hr2, hv, _, hb⟩
  obtain ⟨rfl, rfl⟩ := wake3_is hc hrw.1 hr2 hv
  have hb1 : Below w.heap.size w w1 := ((Below.refl _ _).alloc (Nat.le_refl _) _).trans (hb.mono (by simp))
  obtain ⟨_, ⟨_, e⟩ | ⟨g, rr, _, _, rfl, hrow⟩⟩ := ho
  · cases e
  have c0 : w1.cell? ⟨g, 0, none⟩ = some (.int .u64 3) := hrow.word (xs := [3]) (i := 0) (by simp)
  clear hrow hc hv hb
  go_wp2
  go_ret
  exact ⟨rfl, hb1⟩
end Go.Proofs.Ytfkdjmmhbamkhaa
