/-
  MulLow: the contract of MulLow; Shl and Low as the laws want them.
-/
import Derived.Test.YtagfekcocdjhlaaLow
import Derived.Test.YtagfekcocdjhlaaSteps
namespace Go.Proofs.Ytagfekcocdjhlaa
open Go.RowKit
set_option linter.unusedVariables false

theorem canon_vn2 {xs ys : List Int} (hx : Canon xs) (hy : Canon ys) (h : vn xs = vn ys) : xs = ys := canon_inj hx hy ((vn_eq hx.1 hy.1).1 h)
theorem vn_mul {xs ys zs : List Int} (hx : WF xs) (hy : WF ys) (hz : WF zs) (h : val zs = val xs * val ys) : vn zs = vn xs * vn ys := by
  rw [val_vn hx, val_vn hy, val_vn hz, ← Int.natCast_mul] at h
  omega
/-- One form for both. -/
def Moves (w : World) (s k : Nat) (e : Ending) (w' : World) : Prop :=
  ∃ zs a cap, e = .returned (.tuple #[.slice a zs.length cap, .int .i64 0]) ∧ Sl w'.heap.size w' (.slice a zs.length cap) zs ∧ Canon zs ∧ vn zs = s ∧ zs.length ≤ k ∧ Below w.heap.size w w'
theorem moves_of {w w' : World} {s k : Nat} {e : Ending} (h : Moved w s k e w') : Moves w s k e w' := by
  obtain ⟨zs, v, h1, h2, h3, h4, h5, h6⟩ := h
  obtain ⟨a, cap, rfl⟩ := h2.form
  exact ⟨zs, a, cap, h1, h2.sl, h3, h4, h5, h6⟩
theorem low_to {w : World} {v : Value} {xs : List Int} (h : Sl w.heap.size w v xs) {n : Nat} (hn : n ≤ 9223372036854775807) :
    Calls Try.prog 52 #[v, .int .i64 (n : Int)] w (Moves w (vn xs % 2 ^ n) xs.length) := (low_any h hn).mono fun _ _ h => moves_of h
theorem mulLow_neg (v u : Value) (w : World) {i : Int} (hi : i < 0) :
    Calls Try.prog 32 #[v, u, .int .i64 i] w fun e w' => e = .returned (.tuple #[.slice none 0 0, .int .i64 3]) ∧ Below w.heap.size w w' := by
  go_enter Try.func32, Try.ntmps32
  go_wp2
  go_ret2
  exact ⟨rfl, Below.refl _ _⟩

set_option maxHeartbeats 1600000 in
theorem mulLow_any {w : World} {va vb : Value} {xs ys : List Int} (ha : Sl w.heap.size w va xs) (hb : Sl w.heap.size w vb ys) (hl : xs.length + ys.length ≤ 35184372088832) {n : Nat} (hn : n ≤ 9223372036854775807) :
    Calls Try.prog 32 #[va, vb, .int .i64 (n : Int)] w (Moved w (vn xs * vn ys % 2 ^ n) (xs.length + ys.length)) := by
  go_enter Try.func32, Try.ntmps32
  go_wp2_with fail
  refine (low_to ha hn).mono ?_
  rintro e w1 ⟨P, pa, pc, rfl, p0, CP, HP, lp, k1⟩
  have b1 := hb.now k1
  have g1 := k1
  replace HP := hid HP
  clear ha hb k1
  go_wp2_with fail
  refine (low_to b1 hn).mono ?_
  rintro e w2 ⟨Q, qa, qc, rfl, q0, CQ, HQ, lq, k2⟩
  have p2 := p0.now k2
  have g2 := below_step g1 k2
  replace HQ := hid HQ
  clear p0 b1 g1 k2
  go_wp2_with fail
  refine (mul_now p2 q0 (by omega)).mono ?_
  rintro e w3 ⟨M, ma, mc, rfl, m0, CM, HM, lm, k3⟩
  have g3 := below_step g2 k3
  have HV := hid (vn_mul CP.1 CQ.1 CM.1 HM)
  clear p2 q0 g2 k3 HM
  go_wp2_with fail
  refine (low_any m0 hn).mono ?_
  rintro e w4 ⟨zs, v, rfl, h2, h3, h4, h5, h6⟩
  have g4 := below_step g3 h6
  have hv : vn zs = vn xs * vn ys % 2 ^ n := by
    rw [h4, HV.out, HP.out, HQ.out, ← Nat.mul_mod]
  have HH := hid hv
  have HO : Hid (Own w.heap.size w4 v zs) := by
    unfold Hid
    obtain ⟨o1, o2 | ⟨g, r, o2, o3⟩⟩ := h2
    · exact ⟨o1, .inl o2⟩
    · exact ⟨o1, .inr ⟨g, r, Nat.le_trans g3.size o2, o3⟩⟩
  clear h4 h6 m0 hv h2
  go_wp2
  go_ret2
  exact ⟨zs, v, rfl, HO.out, h3, HH.out, by omega, g4⟩
theorem mulLow_to {w : World} {va vb : Value} {xs ys : List Int} (ha : Sl w.heap.size w va xs) (hb : Sl w.heap.size w vb ys) (hl : xs.length + ys.length ≤ 35184372088832) {n : Nat} (hn : n ≤ 9223372036854775807) :
    Calls Try.prog 32 #[va, vb, .int .i64 (n : Int)] w (Moves w (vn xs * vn ys % 2 ^ n) (xs.length + ys.length)) := (mulLow_any ha hb hl hn).mono fun _ _ h => moves_of h
end Go.Proofs.Ytagfekcocdjhlaa
