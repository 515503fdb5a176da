/-
  QHas10ToZlaw0: Has10, Zlaw0, joined.
-/
import Derived.Test.YtachdicdfhfoaaaQPut10
import Derived.Test.YtachdicdfhfoaaaQAlike

/- Has10 -/
namespace Go.Proofs.Ytachdicdfhfoaaa
open Go.RowKit Go.ChangeMaps Go.MapKept
set_option linter.unusedVariables false

/-- The call answers this and leaves the world as it was. -/
def Still (w : World) (r : Value) (e : Ending) (w' : World) : Prop := e = .returned r ∧ w' = w
/-- .. or makes new memory alone. -/
def Says (w : World) (r : Value) (e : Ending) (w' : World) : Prop := e = .returned r ∧ Below w.heap.size w w'
theorem hasRow_yes {w : World} {g b r c i : Nat} (h : Gd w g b r c) (hi : i < r) : Calls Try.prog 40 #[.pointer (some ⟨g, 0, none⟩), .int .i64 (i : Int)] w (Still w (.bool true)) := by
  have x0 := h.1.at (i := 0) rfl
  have h1 : (0 : Int) ≤ (i : Int) := by omega
  have h2 : (i : Int) < (r : Int) := by omega
  clear h hi
  go_enter Try.func40, Try.ntmps40
  go_wp2
  go_ret
  exact ⟨rfl, rfl⟩
theorem hasRow_nil {w : World} {i : Int} : Calls Try.prog 40 #[.pointer none, .int .i64 i] w (Still w (.bool false)) := by
  go_enter Try.func40, Try.ntmps40
  go_wp2
  go_ret
  exact ⟨rfl, rfl⟩
theorem hasPlace_yes {w : World} {g b r c i j : Nat} (h : Gd w g b r c) (hi : i < r) (hj : j < c) : Calls Try.prog 38 #[.pointer (some ⟨g, 0, none⟩), .int .i64 (i : Int), .int .i64 (j : Int)] w (Still w (.bool true)) := by
  have x0 := h.1.at (i := 1) rfl
  have HR := hid (hasRow_yes h hi)
  have h1 : (0 : Int) ≤ (j : Int) := by omega
  have h2 : (j : Int) < (c : Int) := by omega
  clear h hi hj
  go_enter Try.func38, Try.ntmps38
  go_wp2_with fail
  refine HR.out.mono ?_
  rintro e w' ⟨rfl, rfl⟩
  go_wp2
  go_ret
  exact ⟨rfl, rfl⟩
theorem hasPlace_nil {w : World} {i j : Int} : Calls Try.prog 38 #[.pointer none, .int .i64 i, .int .i64 j] w (Still w (.bool false)) := by
  have HR := hid (hasRow_nil (w := w) (i := i))
  go_enter Try.func38, Try.ntmps38
  go_wp2_with fail
  refine HR.out.mono ?_
  rintro e w' ⟨rfl, rfl⟩
  go_wp2
  go_ret
  exact ⟨rfl, rfl⟩
def Newed (w : World) (r c : Nat) (e : Ending) (w' : World) : Prop := ∃ g b, e = .returned (.tuple #[.pointer (some ⟨g, 0, none⟩), .int .i64 0]) ∧ Gd w' g b r c ∧ Mp spv spok w' b (fun _ => Option.none) 0 ∧ w.heap.size ≤ g ∧ w.heap.size ≤ b ∧ Below w.heap.size w w'
theorem new_small {w : World} {r c : Nat} (hr : r ≤ 3) (hc : c ≤ 3) : Calls Try.prog 23 #[.int .i64 (r : Int), .int .i64 (c : Int)] w (Newed w r c) := by
  have HE := hid (empty_any (w := w) (r := r) (c := c) (by omega) (by omega))
  have h1 : ¬ min (r : Int) (c : Int) < 0 := by omega
  have h2 : ¬ 1048576 < max (r : Int) (c : Int) := by omega
  clear hr hc
  go_enter Try.func23, Try.ntmps23
  go_wp2_with fail
  refine HE.out.mono ?_
  rintro e w' ⟨g, b, rfl, q⟩
  have HQ := hid q
  clear q
  go_wp2
  go_ret2
  exact ⟨g, b, rfl, HQ.out⟩
theorem len_any {w : World} {g b r c n : Nat} {f : Nat × Nat → Option Value} (h : Gd w g b r c) (hm : Mp spv spok w b f n) : Calls Try.prog 30 #[.pointer (some ⟨g, 0, none⟩)] w (Still w (.int .i64 (n : Int))) := by
  have x0 := h.1.at (i := 2) rfl
  have hl := fun ty => hm.len Try.map10 ty
  clear h hm
  go_enter Try.func30, Try.ntmps30
  go_wp2
  go_ret
  exact ⟨rfl, rfl⟩
theorem len_nil10 {w : World} : Calls Try.prog 30 #[.pointer none] w (Still w (.int .i64 0)) := by
  go_enter Try.func30, Try.ntmps30
  go_wp2
  go_ret
  exact ⟨rfl, rfl⟩
/-- What stands at a place. -/
theorem Nm.getD {w : World} {f : Nat × Nat → Option Value} {F : Nat → Nat → Int} {k : Nat} (h : Nm w f F k) (i j : Nat) : Zm 0 w ((f (i, j)).getD (.agg #[.bool false, .slice none 0 0])) (F i j) k := by
  rcases h i j with ⟨h1, h2⟩ | ⟨v, h1, h2, h3⟩
  · rw [h1, h2]
    exact ⟨false, [], none, 0, rfl, ⟨WF.nil, .inl ⟨rfl, rfl⟩⟩, canon_nil, fun _ => rfl, iv_nil _, Nat.zero_le _⟩
  · rw [h1]
    exact h3
def Getd (w : World) (z : Int) (k : Nat) (e : Ending) (w' : World) : Prop := ∃ r, e = .returned (.tuple #[r, .int .i64 0]) ∧ Zm w.heap.size w' r z k ∧ Below w.heap.size w w'
end Go.Proofs.Ytachdicdfhfoaaa

/- Zlaw0 -/
namespace Go.Proofs.Ytachdicdfhfoaaa
open Go.RowKit
set_option linter.unusedVariables false

theorem below_more {w0 w : World} {o : Obj} (h : Below w0.heap.size w0 w) : Below w0.heap.size w0 (w.alloc o) := h.alloc h.size o
theorem zm_zero {B : Nat} {w : World} {n : Bool} {xs : List Int} {a : Option Addr} {c k : Nat} {z : Int} (h : Zm B w (.agg #[.bool n, .slice a xs.length c]) z k) (hz : z = 0) : n = false ∧ xs = [] := by
  obtain ⟨n', xs', a', c', h1, h2, h3, h4, h5, h6⟩ := h
  simp only [Value.agg.injEq, Array.mk.injEq, List.cons.injEq, Value.bool.injEq, Value.slice.injEq, and_true] at h1
  obtain ⟨rfl, rfl, h7, rfl⟩ := h1
  have h0 : val xs' = 0 := by rw [hz] at h5; cases n <;> simp [iv] at h5 <;> exact h5
  have e : xs' = [] := canon_zero h3 h0
  subst e
  exact ⟨h4 rfl, List.eq_nil_of_length_eq_zero h7⟩
theorem zl_three {w : World} {x0 y0 x1 y1 x2 y2 : Value} {A B C : Int} {k : Nat} (ha : Zi w (.agg #[x0, y0]) A k) (hb : Zi w (.agg #[x1, y1]) B k) (hc : Zi w (.agg #[x2, y2]) C k) :
    Zl (w.alloc (.cells #[x0, y0, x1, y1, x2, y2] 35)) (.slice (some ⟨w.heap.size, 0, none⟩) 3 3) [A, B, C] k := by
  have b0 : Below w.heap.size w (w.alloc (.cells #[x0, y0, x1, y1, x2, y2] 35)) := (Below.refl _ _).alloc (Nat.le_refl _) _
  have h := heap_alloc_new w (.cells #[x0, y0, x1, y1, x2, y2] 35)
  have sz : w.heap.size < (w.alloc (.cells #[x0, y0, x1, y1, x2, y2] 35)).heap.size := by simp
  generalize w.alloc (.cells #[x0, y0, x1, y1, x2, y2] 35) = W at *
  refine ⟨_, 3, rfl, by simp, by simp, .inr ⟨w.heap.size, 0, rfl, sz, fun j hj => ?_⟩⟩
  simp only [List.length_cons, List.length_nil] at hj
  rcases (show j = 0 ∨ j = 1 ∨ j = 2 by omega) with rfl | rfl | rfl
  · exact ⟨x0, y0, by simp [World.cell?, h], by simp [World.cell?, h], ha.now b0⟩
  · exact ⟨x1, y1, by simp [World.cell?, h], by simp [World.cell?, h], hb.now b0⟩
  · exact ⟨x2, y2, by simp [World.cell?, h], by simp [World.cell?, h], hc.now b0⟩
theorem int_as {F : FuncId} {args : Array Value} {w : World} {X Y : Int} (h : Calls Try.prog F args w fun e w' => e = .returned (.int .i64 X) ∧ Below w.heap.size w w') (e : X = Y) : Calls Try.prog F args w fun e w' => e = .returned (.int .i64 Y) ∧ Below w.heap.size w w' := by
  subst e; exact h
theorem wrap_mul {x y : Int} (hx : -1 ≤ x ∧ x ≤ 1) (hy : -1 ≤ y ∧ y ≤ 1) : IntKind.i64.wrap (x * y) = x * y := by
  obtain ⟨h1, h2⟩ := hx
  obtain ⟨h3, h4⟩ := hy
  rcases (show x = -1 ∨ x = 0 ∨ x = 1 by omega) with rfl | rfl | rfl <;> rw [wrap_is] <;> omega
theorem cmp_cases (a b : Int) : (a < b ∧ cmpI a b = -1) ∨ (a = b ∧ cmpI a b = 0) ∨ (b < a ∧ cmpI a b = 1) := by
  rcases Int.lt_trichotomy a b with h | h | h
  · exact .inl ⟨h, cmpI_lt h⟩
  · subst h; exact .inr (.inl ⟨rfl, cmpI_self a⟩)
  · exact .inr (.inr ⟨h, cmpI_gt h⟩)
end Go.Proofs.Ytachdicdfhfoaaa
