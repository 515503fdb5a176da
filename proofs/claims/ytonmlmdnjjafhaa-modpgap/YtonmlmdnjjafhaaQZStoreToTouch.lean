/-
  QZStoreToTouch: ZStore, Cells6, Touch, joined.
-/
import Derived.Test.YtonmlmdnjjafhaaQExact0ToZDiv
import Derived.Test.YtonmlmdnjjafhaaQCarryToProd

/- ZStore -/
namespace Go.Proofs.Ytonmlmdnjjafhaa
open Go.RowKit
set_option linter.unusedVariables false

/-- An integer in least form, wherever its words lie. -/
def Zc (w : World) (v : Value) (z : Int) (k : Nat) : Prop :=
  ∃ n zs a c, v = .agg #[.bool n, .slice a zs.length c] ∧ Sl w.heap.size w (.slice a zs.length c) zs ∧ Canon zs ∧ (zs = [] → n = false) ∧ iv n zs = z ∧ zs.length ≤ k
theorem Zm.zc {B : Nat} {w : World} {v : Value} {z : Int} {k : Nat} (h : Zm B w v z k) : Zc w v z k := by
  obtain ⟨n, xs, a, c, h1, h2, h3, h4, h5, h6⟩ := h
  exact ⟨n, xs, a, c, h1, h2.sl, h3, h4, h5, h6⟩
theorem Zc.zi {w : World} {v : Value} {z : Int} {k : Nat} (h : Zc w v z k) : Zi w v z k := by
  obtain ⟨n, xs, a, c, h1, h2, h3, h4, h5, h6⟩ := h
  exact ⟨n, xs, a, c, h1, h2, h5, h6⟩
theorem Zc.now {w w' : World} {v : Value} {z : Int} {k : Nat} (h : Zc w v z k) (hb : Below w.heap.size w w') : Zc w' v z k := by
  obtain ⟨n, xs, a, c, h1, h2, h3, h4, h5, h6⟩ := h
  exact ⟨n, xs, a, c, h1, h2.now hb, h3, h4, h5, h6⟩
/-- A number below pw l has at most l words. -/
theorem Zm.fit {B : Nat} {w : World} {v : Value} {z : Int} {k l : Nat} (h : Zm B w v z k) (hz : (z.natAbs : Int) < pw l) : Zm B w v z l := by
  obtain ⟨n, xs, a, c, h1, h2, h3, h4, h5, h6⟩ := h
  have e := val_nonneg h3.1
  refine ⟨n, xs, a, c, h1, h2, h3, h4, h5, canon_len h3 ?_⟩
  cases n <;> simp [iv] at h5 <;> omega
theorem Zi.lt {w : World} {v : Value} {z : Int} {k : Nat} (h : Zi w v z k) : (z.natAbs : Int) < pw k := by
  obtain ⟨n, xs, a, c, h1, h2, h5, h6⟩ := h
  have e := val_nonneg h2.1
  have e2 := val_lt_pw h2.1
  have e3 := pw_up h6
  cases n <;> simp [iv] at h5 <;> omega
theorem Duo.blk {w : World} {b : Nat} {x y : Value} (h : Duo w b x y) : b < w.heap.size := (Array.getElem?_eq_some_iff.1 (show w.heap[b]? = _ from h)).1
theorem Duo.step {w w' : World} {b : Nat} {x y : Value} (h : Duo w b x y) (hb : Below w.heap.size w w') : Duo w' b x y := h.below hb h.blk
/-- Words that were there stay where they were, whatever boxes are written. -/
def Wk (w w' : World) : Prop := w.heap.size ≤ w'.heap.size ∧ ∀ g off x, w.cell? ⟨g, off, none⟩ = some (.int .u64 x) → w'.cell? ⟨g, off, none⟩ = some (.int .u64 x)
theorem Wk.refl (w : World) : Wk w w := ⟨Nat.le_refl _, fun _ _ _ h => h⟩
theorem Wk.trans {w w' w'' : World} (h : Wk w w') (h' : Wk w' w'') : Wk w w'' := ⟨Nat.le_trans h.1 h'.1, fun g o x e => h'.2 g o x (h.2 g o x e)⟩
theorem Wk.of {w w' : World} (h : Below w.heap.size w w') : Wk w w' := by
  refine ⟨h.size, fun g off x e => ?_⟩
  have hg : g < w.heap.size := by
    by_cases q : g < w.heap.size
    · exact q
    · simp [World.cell?, Array.getElem?_eq_none (Nat.le_of_not_lt q)] at e
  simpa [World.cell?, h.block g hg] using e
theorem Wk.set {w : World} {p : Addr} {u v : Value} (h : w.cell? p = some u) (hu : ∀ x, u ≠ .int .u64 x) : Wk w (w.setCell p v) := by
  refine ⟨by simp, fun g off x e => ?_⟩
  rw [World.cell?_setCell_other _ _ _ _ (fun q => ?_)]
  · exact e
  · subst q
    rw [h] at e
    exact hu x (by simpa using e)
/-- A box of an integer: what is written into it touches no words. -/
theorem Duo.wk {w : World} {b : Nat} {n : Bool} {a : Option Addr} {l c : Nat} (h : Duo w b (.bool n) (.slice a l c)) (x y : Value) : Wk w ((w.setCell ⟨b, 0, none⟩ x).setCell ⟨b, 1, none⟩ y) := by
  refine (Wk.set h.c0 (by simp)).trans (Wk.set (u := .slice a l c) ?_ (by simp))
  rw [World.cell?_setCell_other _ _ _ _ (by simp)]
  exact h.c1
theorem Sl.wk {w w' : World} {v : Value} {xs : List Int} (h : Sl w.heap.size w v xs) (k : Wk w w') : Sl w'.heap.size w' v xs := by
  obtain ⟨h1, a, cap, h2, h3, h4, h5⟩ := h
  refine ⟨h1, a, cap, h2, h3, h4, ?_⟩
  rcases h5 with e | ⟨b, off, e, hb, hc⟩
  · exact .inl e
  · exact .inr ⟨b, off, e, Nat.lt_of_lt_of_le hb k.1, fun j hj => k.2 _ _ _ (hc j hj)⟩
theorem Zi.wk {w w' : World} {v : Value} {z : Int} {k : Nat} (h : Zi w v z k) (b : Wk w w') : Zi w' v z k := by
  obtain ⟨n, xs, a, c, h1, h2, h3, h4⟩ := h
  exact ⟨n, xs, a, c, h1, h2.wk b, h3, h4⟩
theorem Zc.wk {w w' : World} {v : Value} {z : Int} {k : Nat} (h : Zc w v z k) (b : Wk w w') : Zc w' v z k := by
  obtain ⟨n, xs, a, c, h1, h2, h3⟩ := h
  exact ⟨n, xs, a, c, h1, h2.wk b, h3⟩
/-- The like for rows of one's own: a box is no row. -/
theorem Row.box {w : World} {g b i : Nat} {L : List Value} {x y u : Value} (h : Row w g L) (d : Duo w b x y) : Row (w.setCell ⟨b, i, none⟩ u) g L := by
  have hne : g ≠ b := fun e => by
    subst e
    have := (show w.heap[g]? = _ from h).symm.trans (show w.heap[g]? = _ from d)
    simp at this
  exact (Below.heap_setCell w _ u g (fun e => hne (by simpa using e))).trans h
theorem Duo.set0 {w : World} {b : Nat} {x y : Value} (h : Duo w b x y) (u : Value) : Duo (w.setCell ⟨b, 0, none⟩ u) b u y := by
  have h' : w.heap[b]? = some (.cells #[x, y] 35 (0, 0)) := h
  have hlt : b < w.heap.size := h.blk
  have e : w.heap[b] = .cells #[x, y] 35 (0, 0) := (Array.getElem?_eq_some_iff.1 h').2
  unfold Duo World.setCell
  simp [hlt, Array.getElem_modify, e]
theorem Mine.box {B : Nat} {w : World} {v : Value} {zs : List Int} (h : Mine B w v zs) {b : Nat} {x y : Value} (d : Duo w b x y) (u u' : Value) : Mine B ((w.setCell ⟨b, 0, none⟩ u).setCell ⟨b, 1, none⟩ u') v zs := by
  obtain ⟨hw, h | ⟨g, r, cap, h1, h2, h3, h4, h5, h6⟩⟩ := h
  · exact ⟨hw, .inl h⟩
  · exact ⟨hw, .inr ⟨g, r, cap, h1, h2, h3, h4, h5, (h6.box d).box (d.set0 u)⟩⟩
theorem Zm.box {B : Nat} {w : World} {v : Value} {z : Int} {k : Nat} (h : Zm B w v z k) {b : Nat} {x y : Value} (d : Duo w b x y) (u u' : Value) : Zm B ((w.setCell ⟨b, 0, none⟩ u).setCell ⟨b, 1, none⟩ u') v z k := by
  obtain ⟨n, xs, a, c, h1, h2, h3⟩ := h
  exact ⟨n, xs, a, c, h1, h2.box d u u', h3⟩
theorem Duo.box {w : World} {b b' : Nat} {x y : Value} (h : Duo w b x y) (hne : b' ≠ b) (u u' : Value) : Duo ((w.setCell ⟨b', 0, none⟩ u).setCell ⟨b', 1, none⟩ u') b x y := (h.ne hne).ne hne
end Go.Proofs.Ytonmlmdnjjafhaa

/- Cells6 -/
namespace Go.Proofs.Ytonmlmdnjjafhaa
open Go.RowKit
set_option linter.unusedVariables false

/-- A block of these cells. -/
def Cel (w : World) (b : Nat) (T : TypeId) (L : List Value) : Prop := w.heap[b]? = some (.cells L.toArray T (0, 0))
theorem Cel.blk {w : World} {b : Nat} {T : TypeId} {L : List Value} (h : Cel w b T L) : b < w.heap.size := (Array.getElem?_eq_some_iff.1 (show w.heap[b]? = _ from h)).1
theorem Cel.at {w : World} {b : Nat} {T : TypeId} {L : List Value} (h : Cel w b T L) {i : Nat} {v : Value} (e : L[i]? = some v) : w.cell? ⟨b, i, none⟩ = some v := by
  simp [World.cell?, show w.heap[b]? = _ from h, e]
theorem Cel.fz {w : World} {b : Nat} {T : TypeId} {L : List Value} (h : Cel w b T L) (i : Nat) : w.frozen? ⟨b, i, none⟩ = false := by simp [World.frozen?, show w.heap[b]? = _ from h]
theorem Cel.step {w w' : World} {b : Nat} {T : TypeId} {L : List Value} (h : Cel w b T L) (hb : Below w.heap.size w w') : Cel w' b T L := (hb.block b h.blk).trans h
theorem Cel.new (w : World) (T : TypeId) (L : List Value) : Cel (w.alloc (.cells L.toArray T)) w.heap.size T L := heap_alloc_new w _
theorem Cel.ne {w : World} {b b' i : Nat} {T : TypeId} {L : List Value} {u : Value} (h : Cel w b T L) (hne : b' ≠ b) : Cel (w.setCell ⟨b', i, none⟩ u) b T L := by
  have e : (w.setCell ⟨b', i, none⟩ u).heap[b]? = w.heap[b]? := Below.heap_setCell w _ u b (fun e => by simp at e; omega)
  exact e.trans h
theorem Cel.set {w : World} {b : Nat} {T : TypeId} {L : List Value} (h : Cel w b T L) (i : Nat) (v : Value) : Cel (w.setCell ⟨b, i, none⟩ v) b T (L.set i v) := by
  have h' : w.heap[b]? = some (.cells L.toArray T (0, 0)) := h
  have hlt : b < w.heap.size := h.blk
  have e : w.heap[b] = .cells L.toArray T (0, 0) := (Array.getElem?_eq_some_iff.1 h').2
  unfold Cel World.setCell
  simp [hlt, Array.getElem_modify, e]
theorem Cel.wk {w : World} {b : Nat} {T : TypeId} {L : List Value} (h : Cel w b T L) {i : Nat} {u : Value} (e : L[i]? = some u) (hu : ∀ x, u ≠ .int .u64 x) (v : Value) : Wk w (w.setCell ⟨b, i, none⟩ v) := Wk.set (h.at e) hu

abbrev put4 (w : World) (b : Nat) (y0 y1 y2 y3 : Value) : World := (((w.setCell ⟨b, 0, none⟩ y0).setCell ⟨b, 1, none⟩ y1).setCell ⟨b, 2, none⟩ y2).setCell ⟨b, 3, none⟩ y3
abbrev put8 (w : World) (b : Nat) (y0 y1 y2 y3 y4 y5 y6 y7 : Value) : World := ((((put4 w b y0 y1 y2 y3).setCell ⟨b, 4, none⟩ y4).setCell ⟨b, 5, none⟩ y5).setCell ⟨b, 6, none⟩ y6).setCell ⟨b, 7, none⟩ y7
theorem Cel.put4 {w : World} {b : Nat} {T : TypeId} {x0 x1 x2 x3 : Value} (h : Cel w b T [x0, x1, x2, x3]) (y0 y1 y2 y3 : Value) : Cel (put4 w b y0 y1 y2 y3) b T [y0, y1, y2, y3] := (((h.set 0 y0).set 1 y1).set 2 y2).set 3 y3
theorem Cel.put8 {w : World} {b : Nat} {T : TypeId} {x0 x1 x2 x3 x4 x5 x6 x7 : Value} (h : Cel w b T [x0, x1, x2, x3, x4, x5, x6, x7]) (y0 y1 y2 y3 y4 y5 y6 y7 : Value) : Cel (put8 w b y0 y1 y2 y3 y4 y5 y6 y7) b T [y0, y1, y2, y3, y4, y5, y6, y7] :=
  (((((((h.set 0 y0).set 1 y1).set 2 y2).set 3 y3).set 4 y4).set 5 y5).set 6 y6).set 7 y7
/-- A box of an integer and a store into another box. -/
theorem Duo.away4 {w : World} {b b' : Nat} {x y : Value} (h : Duo w b x y) (hne : b' ≠ b) (y0 y1 y2 y3 : Value) : Duo (put4 w b' y0 y1 y2 y3) b x y := (((h.ne hne).ne hne).ne hne).ne hne
theorem Duo.away8 {w : World} {b b' : Nat} {x y : Value} (h : Duo w b x y) (hne : b' ≠ b) (y0 y1 y2 y3 y4 y5 y6 y7 : Value) : Duo (put8 w b' y0 y1 y2 y3 y4 y5 y6 y7) b x y := (((((((h.ne hne).ne hne).ne hne).ne hne).ne hne).ne hne).ne hne).ne hne
theorem Cel.away2 {w : World} {b b' : Nat} {T : TypeId} {L : List Value} (h : Cel w b T L) (hne : b' ≠ b) (y0 y1 : Value) : Cel ((w.setCell ⟨b', 0, none⟩ y0).setCell ⟨b', 1, none⟩ y1) b T L := (h.ne hne).ne hne
/-- What holds no word may be written over. -/
def NoW (u : Value) : Prop := ∀ x, u ≠ .int .u64 x
theorem noB (n : Bool) : NoW (.bool n) := by intro x; simp
theorem noS (a : Option Addr) (l c : Nat) : NoW (.slice a l c) := by intro x; simp
theorem Cel.wk8 {w : World} {b : Nat} {T : TypeId} {n0 n1 n2 n3 : Bool} {a0 a1 a2 a3 : Option Addr} {l0 l1 l2 l3 c0 c1 c2 c3 : Nat} (h : Cel w b T [.bool n0, .slice a0 l0 c0, .bool n1, .slice a1 l1 c1, .bool n2, .slice a2 l2 c2, .bool n3, .slice a3 l3 c3]) (y0 y1 y2 y3 y4 y5 y6 y7 : Value) : Wk w (Go.Proofs.Ytonmlmdnjjafhaa.put8 w b y0 y1 y2 y3 y4 y5 y6 y7) := by
  have h1 := h.set 0 y0
  have h2 := h1.set 1 y1
  have h3 := h2.set 2 y2
  have h4 := h3.set 3 y3
  have h5 := h4.set 4 y4
  have h6 := h5.set 5 y5
  have h7 := h6.set 6 y6
  exact (((((((h.wk (i := 0) rfl (noB n0) y0).trans (h1.wk (i := 1) rfl (noS a0 l0 c0) y1)).trans (h2.wk (i := 2) rfl (noB n1) y2)).trans (h3.wk (i := 3) rfl (noS a1 l1 c1) y3)).trans (h4.wk (i := 4) rfl (noB n2) y4)).trans (h5.wk (i := 5) rfl (noS a2 l2 c2) y5)).trans (h6.wk (i := 6) rfl (noB n3) y6)).trans (h7.wk (i := 7) rfl (noS a3 l3 c3) y7)
theorem Cel.wk4 {w : World} {b : Nat} {T : TypeId} {n0 n1 : Bool} {a0 a1 : Option Addr} {l0 l1 c0 c1 : Nat} (h : Cel w b T [.bool n0, .slice a0 l0 c0, .bool n1, .slice a1 l1 c1]) (y0 y1 y2 y3 : Value) : Wk w (Go.Proofs.Ytonmlmdnjjafhaa.put4 w b y0 y1 y2 y3) := by
  have h1 := h.set 0 y0
  have h2 := h1.set 1 y1
  have h3 := h2.set 2 y2
  exact (((h.wk (i := 0) rfl (noB n0) y0).trans (h1.wk (i := 1) rfl (noS a0 l0 c0) y1)).trans (h2.wk (i := 2) rfl (noB n1) y2)).trans (h3.wk (i := 3) rfl (noS a1 l1 c1) y3)
theorem Cel.away4 {w : World} {b b' : Nat} {T : TypeId} {L : List Value} (h : Cel w b T L) (hne : b' ≠ b) (y0 y1 y2 y3 : Value) : Cel (Go.Proofs.Ytonmlmdnjjafhaa.put4 w b' y0 y1 y2 y3) b T L := (((h.ne hne).ne hne).ne hne).ne hne
theorem Cel.away8 {w : World} {b b' : Nat} {T : TypeId} {L : List Value} (h : Cel w b T L) (hne : b' ≠ b) (y0 y1 y2 y3 y4 y5 y6 y7 : Value) : Cel (Go.Proofs.Ytonmlmdnjjafhaa.put8 w b' y0 y1 y2 y3 y4 y5 y6 y7) b T L := (((((((h.ne hne).ne hne).ne hne).ne hne).ne hne).ne hne).ne hne).ne hne
end Go.Proofs.Ytonmlmdnjjafhaa

/- Touch -/
namespace Go.Proofs.Ytonmlmdnjjafhaa
open Go.RowKit

/-- Only blocks of S have turned; new ones may be there. -/
structure Touch (S : Nat → Prop) (w w' : World) : Prop where
  os : w'.os = w.os
  tape : w'.tape = w.tape
  output : w'.output = w.output
  size : w.heap.size ≤ w'.heap.size
  block : ∀ k, k < w.heap.size → ¬ S k → w'.heap[k]? = w.heap[k]?
theorem Touch.refl (S : Nat → Prop) (w : World) : Touch S w w := ⟨rfl, rfl, rfl, Nat.le_refl _, fun _ _ _ => rfl⟩
theorem Touch.trans {S : Nat → Prop} {a b c : World} (h : Touch S a b) (k : Touch S b c) : Touch S a c :=
  ⟨k.os.trans h.os, k.tape.trans h.tape, k.output.trans h.output, Nat.le_trans h.size k.size, fun i hi hS => (k.block i (Nat.lt_of_lt_of_le hi h.size) hS).trans (h.block i hi hS)⟩
theorem Touch.ofBelow {S : Nat → Prop} {w w' : World} (h : Below w.heap.size w w') : Touch S w w' := ⟨h.os, h.tape, h.output, h.size, fun k hk _ => h.block k hk⟩
theorem Touch.alloc {S : Nat → Prop} {w0 w : World} (h : Touch S w0 w) (o : Obj) : Touch S w0 (w.alloc o) :=
  h.trans (.ofBelow ((Below.refl _ _).alloc (Nat.le_refl _) o))
theorem Touch.drewN {S : Nat → Prop} {w0 w : World} (h : Touch S w0 w) (n : Nat) : Touch S w0 (w.drewN n) := ⟨h.os, h.tape, h.output, h.size, h.block⟩
theorem Touch.setCell {S : Nat → Prop} {w0 w : World} (h : Touch S w0 w) {g : Nat} (hg : w0.heap.size ≤ g ∨ S g) (j : Nat) (x : Value) : Touch S w0 (w.setCell ⟨g, j, none⟩ x) := by
  have b := (Below.refl g w).setCell (p := ⟨g, j, none⟩) (Nat.le_refl _) x
  refine ⟨b.os.trans h.os, b.tape.trans h.tape, b.output.trans h.output, Nat.le_trans h.size b.size, fun k hk hS => ?_⟩
  rw [Below.heap_setCell w _ x k (fun e => by subst e; rcases hg with q | q; (· exact absurd hk (by omega)); exact hS q)]
  exact h.block k hk hS
theorem Touch.grown {S : Nat → Prop} {w0 w w' : World} {row : Option Nat} (h : Touch S w0 w) (hg : w.grownBy w' row) (hr : ∀ k, row = some k → w0.heap.size ≤ k ∨ S k) : Touch S w0 w' :=
  ⟨hg.os.trans h.os, hg.tape.trans h.tape, hg.output.trans h.output, Nat.le_trans h.size hg.size, fun k hk hS => by
    rw [hg.block k (Nat.lt_of_lt_of_le hk h.size) (fun e => by rcases hr k e.symm with q | q; (· omega); exact hS q)]
    exact h.block k hk hS⟩
theorem Touch.cell {S : Nat → Prop} {w w' : World} (h : Touch S w w') {b : Nat} (hb : b < w.heap.size) (hS : ¬ S b) (j : Nat) : w'.cell? ⟨b, j, none⟩ = w.cell? ⟨b, j, none⟩ :=
  World.cell?_of_block (h.block b hb hS)
theorem Touch.row {S : Nat → Prop} {w w' : World} (h : Touch S w w') {g : Nat} {L : List Value} (hr : Row w g L) (hS : ¬ S g) : Row w' g L := (h.block g hr.lt hS).trans hr
end Go.Proofs.Ytonmlmdnjjafhaa
