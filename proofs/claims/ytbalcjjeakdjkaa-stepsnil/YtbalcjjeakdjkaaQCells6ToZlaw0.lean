/-
  QCells6ToZlaw0: Cells6, Zlaw0, joined.
-/
import Derived.Test.YtbalcjjeakdjkaaQDivModToZStore
import Derived.Test.YtbalcjjeakdjkaaQAlikeToOpenV8

/- Cells6 -/
namespace Go.Proofs.Ytbalcjjeakdjkaa
open Go.RowKit
set_option linter.unusedVariables false

/-- A block of these cells. -/
def Cel (w : World) (b : Nat) (T : TypeId) (L : List Value) : Prop := w.heap[b]? = some (.cells L.toArray T (0, 0))
theorem Cel.blk {w : World} {b : Nat} {T : TypeId} {L : List Value} (h : Cel w b T L) : b < w.heap.size := (Array.getElem?_eq_some_iff.1 (show w.heap[b]? = _ from h)).1
theorem Cel.at {w : World} {b : Nat} {T : TypeId} {L : List Value} (h : Cel w b T L) {i : Nat} {v : Value} (e : L[i]? = some v) : w.cell? ⟨b, i, none⟩ = some v := by
  simp [World.cell?, show w.heap[b]? = _ from h, e]
theorem Cel.fz {w : World} {b : Nat} {T : TypeId} {L : List Value} (h : Cel w b T L) (i : Nat) : w.frozen? ⟨b, i, none⟩ = false := by simp [World.frozen?, show w.heap[b]? = _ from h]
theorem Cel.step {w w' : World} {b : Nat} {T : TypeId} {L : List Value} (h : Cel w b T L) (hb : Below w.heap.size w w') : Cel w' b T L := (hb.block b h.blk).trans h
theorem Cel.new (w : World) (T : TypeId) (L : List Value) : Cel (w.alloc (.cells L.toArray T)) w.heap.size T L := heap_alloc_new w _
theorem Cel.ne {w : World} {b b' i : Nat} {T : TypeId} {L : List Value} {u : Value} (h : Cel w b T L) (hne : b' ≠ b) : Cel (w.setCell ⟨b', i, none⟩ u) b T L := by
  have e : (w.setCell ⟨b', i, none⟩ u).heap[b]? = w.heap[b]? := Below.heap_setCell w _ u b (fun e => by simp at e; omega)
  exact e.trans h
theorem Cel.set {w : World} {b : Nat} {T : TypeId} {L : List Value} (h : Cel w b T L) (i : Nat) (v : Value) : Cel (w.setCell ⟨b, i, none⟩ v) b T (L.set i v) := by
  have h' : w.heap[b]? = some (.cells L.toArray T (0, 0)) := h
  have hlt : b < w.heap.size := h.blk
  have e : w.heap[b] = .cells L.toArray T (0, 0) := (Array.getElem?_eq_some_iff.1 h').2
  unfold Cel World.setCell
  simp [hlt, Array.getElem_modify, e]
theorem Cel.wk {w : World} {b : Nat} {T : TypeId} {L : List Value} (h : Cel w b T L) {i : Nat} {u : Value} (e : L[i]? = some u) (hu : ∀ x, u ≠ .int .u64 x) (v : Value) : Wk w (w.setCell ⟨b, i, none⟩ v) := Wk.set (h.at e) hu

abbrev put4 (w : World) (b : Nat) (y0 y1 y2 y3 : Value) : World := (((w.setCell ⟨b, 0, none⟩ y0).setCell ⟨b, 1, none⟩ y1).setCell ⟨b, 2, none⟩ y2).setCell ⟨b, 3, none⟩ y3
abbrev put8 (w : World) (b : Nat) (y0 y1 y2 y3 y4 y5 y6 y7 : Value) : World := ((((put4 w b y0 y1 y2 y3).setCell ⟨b, 4, none⟩ y4).setCell ⟨b, 5, none⟩ y5).setCell ⟨b, 6, none⟩ y6).setCell ⟨b, 7, none⟩ y7
theorem Cel.put4 {w : World} {b : Nat} {T : TypeId} {x0 x1 x2 x3 : Value} (h : Cel w b T [x0, x1, x2, x3]) (y0 y1 y2 y3 : Value) : Cel (put4 w b y0 y1 y2 y3) b T [y0, y1, y2, y3] := (((h.set 0 y0).set 1 y1).set 2 y2).set 3 y3
theorem Cel.put8 {w : World} {b : Nat} {T : TypeId} {x0 x1 x2 x3 x4 x5 x6 x7 : Value} (h : Cel w b T [x0, x1, x2, x3, x4, x5, x6, x7]) (y0 y1 y2 y3 y4 y5 y6 y7 : Value) : Cel (put8 w b y0 y1 y2 y3 y4 y5 y6 y7) b T [y0, y1, y2, y3, y4, y5, y6, y7] :=
  (((((((h.set 0 y0).set 1 y1).set 2 y2).set 3 y3).set 4 y4).set 5 y5).set 6 y6).set 7 y7
/-- A box of an integer and a store into another box. -/
theorem Duo.away4 {w : World} {b b' : Nat} {x y : Value} (h : Duo w b x y) (hne : b' ≠ b) (y0 y1 y2 y3 : Value) : Duo (put4 w b' y0 y1 y2 y3) b x y := (((h.ne hne).ne hne).ne hne).ne hne
theorem Duo.away8 {w : World} {b b' : Nat} {x y : Value} (h : Duo w b x y) (hne : b' ≠ b) (y0 y1 y2 y3 y4 y5 y6 y7 : Value) : Duo (put8 w b' y0 y1 y2 y3 y4 y5 y6 y7) b x y := (((((((h.ne hne).ne hne).ne hne).ne hne).ne hne).ne hne).ne hne).ne hne
theorem Cel.away2 {w : World} {b b' : Nat} {T : TypeId} {L : List Value} (h : Cel w b T L) (hne : b' ≠ b) (y0 y1 : Value) : Cel ((w.setCell ⟨b', 0, none⟩ y0).setCell ⟨b', 1, none⟩ y1) b T L := (h.ne hne).ne hne
/-- What holds no word may be written over. -/
def NoW (u : Value) : Prop := ∀ x, u ≠ .int .u64 x
theorem noB (n : Bool) : NoW (.bool n) := by intro x; simp
theorem noS (a : Option Addr) (l c : Nat) : NoW (.slice a l c) := by intro x; simp
theorem Cel.wk8 {w : World} {b : Nat} {T : TypeId} {n0 n1 n2 n3 : Bool} {a0 a1 a2 a3 : Option Addr} {l0 l1 l2 l3 c0 c1 c2 c3 : Nat} (h : Cel w b T [.bool n0, .slice a0 l0 c0, .bool n1, .slice a1 l1 c1, .bool n2, .slice a2 l2 c2, .bool n3, .slice a3 l3 c3]) (y0 y1 y2 y3 y4 y5 y6 y7 : Value) : Wk w (Go.Proofs.Ytbalcjjeakdjkaa.put8 w b y0 y1 y2 y3 y4 y5 y6 y7) := by
  have h1 := h.set 0 y0
  have h2 := h1.set 1 y1
  have h3 := h2.set 2 y2
  have h4 := h3.set 3 y3
  have h5 := h4.set 4 y4
  have h6 := h5.set 5 y5
  have h7 := h6.set 6 y6
  exact (((((((h.wk (i := 0) rfl (noB n0) y0).trans (h1.wk (i := 1) rfl (noS a0 l0 c0) y1)).trans (h2.wk (i := 2) rfl (noB n1) y2)).trans (h3.wk (i := 3) rfl (noS a1 l1 c1) y3)).trans (h4.wk (i := 4) rfl (noB n2) y4)).trans (h5.wk (i := 5) rfl (noS a2 l2 c2) y5)).trans (h6.wk (i := 6) rfl (noB n3) y6)).trans (h7.wk (i := 7) rfl (noS a3 l3 c3) y7)
theorem Cel.wk4 {w : World} {b : Nat} {T : TypeId} {n0 n1 : Bool} {a0 a1 : Option Addr} {l0 l1 c0 c1 : Nat} (h : Cel w b T [.bool n0, .slice a0 l0 c0, .bool n1, .slice a1 l1 c1]) (y0 y1 y2 y3 : Value) : Wk w (Go.Proofs.Ytbalcjjeakdjkaa.put4 w b y0 y1 y2 y3) := by
  have h1 := h.set 0 y0
  have h2 := h1.set 1 y1
  have h3 := h2.set 2 y2
  exact (((h.wk (i := 0) rfl (noB n0) y0).trans (h1.wk (i := 1) rfl (noS a0 l0 c0) y1)).trans (h2.wk (i := 2) rfl (noB n1) y2)).trans (h3.wk (i := 3) rfl (noS a1 l1 c1) y3)
theorem Cel.away4 {w : World} {b b' : Nat} {T : TypeId} {L : List Value} (h : Cel w b T L) (hne : b' ≠ b) (y0 y1 y2 y3 : Value) : Cel (Go.Proofs.Ytbalcjjeakdjkaa.put4 w b' y0 y1 y2 y3) b T L := (((h.ne hne).ne hne).ne hne).ne hne
theorem Cel.away8 {w : World} {b b' : Nat} {T : TypeId} {L : List Value} (h : Cel w b T L) (hne : b' ≠ b) (y0 y1 y2 y3 y4 y5 y6 y7 : Value) : Cel (Go.Proofs.Ytbalcjjeakdjkaa.put8 w b' y0 y1 y2 y3 y4 y5 y6 y7) b T L := (((((((h.ne hne).ne hne).ne hne).ne hne).ne hne).ne hne).ne hne).ne hne
end Go.Proofs.Ytbalcjjeakdjkaa

/- Zlaw0 -/
namespace Go.Proofs.Ytbalcjjeakdjkaa
open Go.RowKit
set_option linter.unusedVariables false

theorem below_more {w0 w : World} {o : Obj} (h : Below w0.heap.size w0 w) : Below w0.heap.size w0 (w.alloc o) := h.alloc h.size o
theorem zm_zero {B : Nat} {w : World} {n : Bool} {xs : List Int} {a : Option Addr} {c k : Nat} {z : Int} (h : Zm B w (.agg #[.bool n, .slice a xs.length c]) z k) (hz : z = 0) : n = false ∧ xs = [] := by
  obtain ⟨n', xs', a', c', h1, h2, h3, h4, h5, h6⟩ := h
  simp only [Value.agg.injEq, Array.mk.injEq, List.cons.injEq, Value.bool.injEq, Value.slice.injEq, and_true] at h1
  obtain ⟨rfl, rfl, h7, rfl⟩ := h1
  have h0 : val xs' = 0 := by rw [hz] at h5; cases n <;> simp [iv] at h5 <;> exact h5
  have e : xs' = [] := canon_zero h3 h0
  subst e
  exact ⟨h4 rfl, List.eq_nil_of_length_eq_zero h7⟩
theorem zl_three {w : World} {x0 y0 x1 y1 x2 y2 : Value} {A B C : Int} {k : Nat} (ha : Zi w (.agg #[x0, y0]) A k) (hb : Zi w (.agg #[x1, y1]) B k) (hc : Zi w (.agg #[x2, y2]) C k) :
    Zl (w.alloc (.cells #[x0, y0, x1, y1, x2, y2] 28)) (.slice (some ⟨w.heap.size, 0, none⟩) 3 3) [A, B, C] k := by
  have b0 : Below w.heap.size w (w.alloc (.cells #[x0, y0, x1, y1, x2, y2] 28)) := (Below.refl _ _).alloc (Nat.le_refl _) _
  have h := heap_alloc_new w (.cells #[x0, y0, x1, y1, x2, y2] 28)
  have sz : w.heap.size < (w.alloc (.cells #[x0, y0, x1, y1, x2, y2] 28)).heap.size := by simp
  generalize w.alloc (.cells #[x0, y0, x1, y1, x2, y2] 28) = W at *
  refine ⟨_, 3, rfl, by simp, by simp, .inr ⟨w.heap.size, 0, rfl, sz, fun j hj => ?_⟩⟩
  simp only [List.length_cons, List.length_nil] at hj
  rcases (show j = 0 ∨ j = 1 ∨ j = 2 by omega) with rfl | rfl | rfl
  · exact ⟨x0, y0, by simp [World.cell?, h], by simp [World.cell?, h], ha.now b0⟩
  · exact ⟨x1, y1, by simp [World.cell?, h], by simp [World.cell?, h], hb.now b0⟩
  · exact ⟨x2, y2, by simp [World.cell?, h], by simp [World.cell?, h], hc.now b0⟩
theorem int_as {F : FuncId} {args : Array Value} {w : World} {X Y : Int} (h : Calls Try.prog F args w fun e w' => e = .returned (.int .i64 X) ∧ Below w.heap.size w w') (e : X = Y) : Calls Try.prog F args w fun e w' => e = .returned (.int .i64 Y) ∧ Below w.heap.size w w' := by
  subst e; exact h
theorem wrap_mul {x y : Int} (hx : -1 ≤ x ∧ x ≤ 1) (hy : -1 ≤ y ∧ y ≤ 1) : IntKind.i64.wrap (x * y) = x * y := by
  obtain ⟨h1, h2⟩ := hx
  obtain ⟨h3, h4⟩ := hy
  rcases (show x = -1 ∨ x = 0 ∨ x = 1 by omega) with rfl | rfl | rfl <;> rw [wrap_is] <;> omega
theorem cmp_cases (a b : Int) : (a < b ∧ cmpI a b = -1) ∨ (a = b ∧ cmpI a b = 0) ∨ (b < a ∧ cmpI a b = 1) := by
  rcases Int.lt_trichotomy a b with h | h | h
  · exact .inl ⟨h, cmpI_lt h⟩
  · subst h; exact .inr (.inl ⟨rfl, cmpI_self a⟩)
  · exact .inr (.inr ⟨h, cmpI_gt h⟩)
end Go.Proofs.Ytbalcjjeakdjkaa
