/-
  Zlaw0: what the walks of the laws over integers lean on.
-/
import Derived.Test.YtgdlecghpbckpaaDoorQAwake5
namespace Go.Proofs.YtgdlecghpbckpaaDoor
open Go.RowKit
set_option linter.unusedVariables false

theorem below_more {w0 w : World} {o : Obj} (h : Below w0.heap.size w0 w) : Below w0.heap.size w0 (w.alloc o) := h.alloc h.size o
theorem zm_zero {B : Nat} {w : World} {n : Bool} {xs : List Int} {a : Option Addr} {c k : Nat} {z : Int} (h : Zm B w (.agg #[.bool n, .slice a xs.length c]) z k) (hz : z = 0) : n = false ∧ xs = [] := by
  obtain ⟨n', xs', a', c', h1, h2, h3, h4, h5, h6⟩ := h
  simp only [Value.agg.injEq, Array.mk.injEq, List.cons.injEq, Value.bool.injEq, Value.slice.injEq, and_true] at h1
  obtain ⟨rfl, rfl, h7, rfl⟩ := h1
  have h0 : val xs' = 0 := by rw [hz] at h5; cases n <;> simp [iv] at h5 <;> exact h5
  have e : xs' = [] := canon_zero h3 h0
  subst e
  exact ⟨h4 rfl, List.eq_nil_of_length_eq_zero h7⟩
theorem zl_three {w : World} {x0 y0 x1 y1 x2 y2 : Value} {A B C : Int} {k : Nat} (ha : Zi w (.agg #[x0, y0]) A k) (hb : Zi w (.agg #[x1, y1]) B k) (hc : Zi w (.agg #[x2, y2]) C k) :
    Zl (w.alloc (.cells #[x0, y0, x1, y1, x2, y2] 24)) (.slice (some ⟨w.heap.size, 0, none⟩) 3 3) [A, B, C] k := by
  have b0 : Below w.heap.size w (w.alloc (.cells #[x0, y0, x1, y1, x2, y2] 24)) := (Below.refl _ _).alloc (Nat.le_refl _) _
  have h := heap_alloc_new w (.cells #[x0, y0, x1, y1, x2, y2] 24)
  have sz : w.heap.size < (w.alloc (.cells #[x0, y0, x1, y1, x2, y2] 24)).heap.size := by simp
  generalize w.alloc (.cells #[x0, y0, x1, y1, x2, y2] 24) = W at *
  refine ⟨_, 3, rfl, by simp, by simp, .inr ⟨w.heap.size, 0, rfl, sz, fun j hj => ?_⟩⟩
  simp only [List.length_cons, List.length_nil] at hj
  rcases (show j = 0 ∨ j = 1 ∨ j = 2 by omega) with rfl | rfl | rfl
  · exact ⟨x0, y0, by simp [World.cell?, h], by simp [World.cell?, h], ha.now b0⟩
  · exact ⟨x1, y1, by simp [World.cell?, h], by simp [World.cell?, h], hb.now b0⟩
  · exact ⟨x2, y2, by simp [World.cell?, h], by simp [World.cell?, h], hc.now b0⟩
theorem int_as {F : FuncId} {args : Array Value} {w : World} {X Y : Int} (h : Calls Tryd.prog F args w fun e w' => e = .returned (.int .i64 X) ∧ Below w.heap.size w w') (e : X = Y) : Calls Tryd.prog F args w fun e w' => e = .returned (.int .i64 Y) ∧ Below w.heap.size w w' := by
  subst e; exact h
theorem wrap_mul {x y : Int} (hx : -1 ≤ x ∧ x ≤ 1) (hy : -1 ≤ y ∧ y ≤ 1) : IntKind.i64.wrap (x * y) = x * y := by
  obtain ⟨h1, h2⟩ := hx
  obtain ⟨h3, h4⟩ := hy
  rcases (show x = -1 ∨ x = 0 ∨ x = 1 by omega) with rfl | rfl | rfl <;> rw [wrap_is] <;> omega
theorem cmp_cases (a b : Int) : (a < b ∧ cmpI a b = -1) ∨ (a = b ∧ cmpI a b = 0) ∨ (b < a ∧ cmpI a b = 1) := by
  rcases Int.lt_trichotomy a b with h | h | h
  · exact .inl ⟨h, cmpI_lt h⟩
  · subst h; exact .inr (.inl ⟨rfl, cmpI_self a⟩)
  · exact .inr (.inr ⟨h, cmpI_gt h⟩)
end Go.Proofs.YtgdlecghpbckpaaDoor
