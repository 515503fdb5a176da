/-
  Len: Len64 and BitLen, at the one list that awake asks.
-/
import Derived.Test.YtagfekcocdjhlaaDoorBase
namespace Go.Proofs.YtagfekcocdjhlaaDoor
open Go.RowKit

set_option maxHeartbeats 400000 in
set_option maxRecDepth 1000000 in
theorem len64_4 (w : World) : Calls Tryd.prog 41 #[.int .u64 4] w fun e w' => e = .returned (.int .i64 3) ∧ w' = w := by
  go_enter Tryd.func41, Tryd.ntmps41
  go_wp2
  go_ret
  exact ⟨by kernel_rfl, rfl⟩

/-- 2 * 64 + 3 binary digits. -/
theorem bitLen_04 {B : Nat} {w : World} {v : Value} (h : Sl B w v [0, 4]) :
    Calls Tryd.prog 16 #[v] w fun e w' => e = .returned (.int .i64 67) ∧ w' = w := by
  have HW := width_any h
  rw [show wid [0, 4] = 2 from rfl] at HW
  obtain ⟨hw, a, cap, rfl, hlc, hcm, hm⟩ := h
  rcases hm with e | ⟨b, off, rfl, hb, hc⟩
  · cases e
  have c1 : w.cell? ⟨b, off + 1, none⟩ = some (.int .u64 4) := hc 1 (by simp)
  clear hc hw
  simp only [List.length_cons, List.length_nil] at hlc HW ⊢
  go_enter Tryd.func16, Tryd.ntmps16
  go_wp2_with fail
  refine HW.mono ?_
  rintro e w1 ⟨rfl, rfl⟩
  clear HW
  go_wp2_with fail
  refine (len64_4 _).mono ?_
  rintro e w2 ⟨rfl, rfl⟩
  go_wp2
  go_ret
  exact ⟨rfl, rfl⟩
end Go.Proofs.YtagfekcocdjhlaaDoor
