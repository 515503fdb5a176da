/-
  Exact0: the contract of Exact.
-/
import Derived.Test.YtaoammmnpfbdfaaQDivMod
namespace Go.Proofs.Ytaoammmnpfbdfaa
open Go.RowKit
set_option linter.unusedVariables false

/-- Quotient and rest are one pair. -/
theorem div_one {X Y q r q' r' : Int} (h : X = Y * q + r) (h' : X = Y * q' + r') (a : 0 ≤ r) (b : r < Y) (a' : 0 ≤ r') (b' : r' < Y) : q' = q ∧ r' = r := by
  have e : Y * (q' - q) = r - r' := by rw [Int.mul_sub]; omega
  rcases Int.lt_trichotomy (q' - q) 0 with k | k | k
  · have := Int.mul_le_mul_of_nonneg_left (show q' - q ≤ -1 by omega) (show 0 ≤ Y by omega)
    rw [Int.mul_neg, Int.mul_one] at this
    omega
  · rw [k, Int.mul_zero] at e
    omega
  · have := Int.mul_le_mul_of_nonneg_left (show 1 ≤ q' - q by omega) (show 0 ≤ Y by omega)
    rw [Int.mul_one] at this
    omega

theorem exact_zero {w : World} {v u : Value} {ys : List Int} (h' : Sl w.heap.size w u ys) (h0 : wid ys = 0) :
    Calls Try.prog 58 #[v, u] w fun e w' => e = .returned (.tuple #[.slice none 0 0, .int .i64 4]) ∧ Below w.heap.size w w' := by
  have HD := divMod_zero (v := v) h' h0
  have hz : ((4 : Int) != 0) = true := rfl
  go_enter Try.func58, Try.ntmps58
  go_wp2_with fail
  refine HD.mono ?_
  rintro e w1 ⟨rfl, hb⟩
  have HB := hid hb
  clear HD hb
  go_wp2
  go_ret2
  exact ⟨rfl, HB.out⟩

/-- What Exact answers, b not being 0. -/
def Exacted (w : World) (xs ys : List Int) (e : Ending) (w' : World) : Prop :=
  ∃ qs rs, Canon qs ∧ Canon rs ∧ val xs = val ys * val qs + val rs ∧ val rs < val ys ∧ qs.length ≤ xs.length ∧ Below w.heap.size w w' ∧
    ((rs = [] ∧ ∃ q, e = .returned (.tuple #[q, .int .i64 0]) ∧ Own w.heap.size w' q qs) ∨ (rs ≠ [] ∧ e = .returned (.tuple #[.slice none 0 0, .int .i64 8])))

set_option maxHeartbeats 800000 in
theorem exact_any {w : World} {v u : Value} {xs ys : List Int} (h : Sl w.heap.size w v xs) (h' : Sl w.heap.size w u ys) (h1 : wid ys ≠ 0) (hxl : xs.length ≤ 1099511627776) (hyl : ys.length ≤ 1099511627776) :
    Calls Try.prog 58 #[v, u] w (Exacted w xs ys) := by
  have HD := divMod_any h h' h1 hxl hyl
  have hz : ((0 : Int) != 0) = false := rfl
  clear h h' h1
  go_enter Try.func58, Try.ntmps58
  go_wp2_with fail
  refine HD.mono ?_
  rintro e w1 ⟨qs, rs, q, r, rfl, hoq, hor, hcq, hcr, hv, hlt, hlq, hlr, _, hb⟩
  obtain ⟨ra, rc, rfl⟩ := hor.form
  have HX : Hid (val xs = val ys * val qs + val rs ∧ val rs < val ys) := ⟨hv, hlt⟩
  have HB := hid hb
  have HO := hid hoq
  clear HD hb hoq hor hv hlt
  by_cases hr : rs = []
  · subst hr
    go_wp2
    go_ret2
    exact ⟨qs, [], hcq, hcr, HX.out.1, HX.out.2, hlq, HB.out, .inl ⟨rfl, q, rfl, HO.out⟩⟩
  · obtain ⟨k, hk⟩ : ∃ k, rs.length = k + 1 := ⟨rs.length - 1, by have := Nat.pos_of_ne_zero (fun e => hr (List.eq_nil_of_length_eq_zero e)); omega⟩
    rw [hk]
    go_wp2
    go_ret2
    exact ⟨qs, rs, hcq, hcr, HX.out.1, HX.out.2, hlq, HB.out, .inr ⟨hr, rfl⟩⟩

end Go.Proofs.Ytaoammmnpfbdfaa
