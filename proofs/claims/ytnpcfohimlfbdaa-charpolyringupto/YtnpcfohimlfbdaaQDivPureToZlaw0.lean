/-
  QDivPureToZlaw0: DivPure, Shift, Div64, DivWord, DivParts, Guess, Long3, Divide, Moved, Shl, Shr, DivMod, Exact0, ZDiv, ZStore, Cells6, Zlaw0, joined.
-/
import Derived.Test.YtnpcfohimlfbdaaQMadeToLen2
import Derived.Test.YtnpcfohimlfbdaaQOpenToCarry
import Derived.Shelf.Spec.TrailingZeros
import Derived.Shelf.Bits.Mul64
import Derived.Test.YtnpcfohimlfbdaaQProdToTimes
import Derived.Deep.LoopGhost
import Derived.Test.YtnpcfohimlfbdaaQCmpToNow
import Derived.ArgAppend
import Derived.OwnWalk
import Derived.Test.YtnpcfohimlfbdaaQAlike

/- DivPure -/
namespace Go.Proofs.Ytnpcfohimlfbdaa
open Go.RowKit

end Go.Proofs.Ytnpcfohimlfbdaa

/- Shift -/
namespace Go.Proofs.Ytnpcfohimlfbdaa
open Go.RowKit

end Go.Proofs.Ytnpcfohimlfbdaa

/- Div64 -/
namespace Go.Proofs.Ytnpcfohimlfbdaa
open Go.RowKit
set_option linter.unusedVariables false

end Go.Proofs.Ytnpcfohimlfbdaa

/- DivWord -/
namespace Go.Proofs.Ytnpcfohimlfbdaa
open Go.RowKit
set_option linter.unusedVariables false

end Go.Proofs.Ytnpcfohimlfbdaa

/- DivParts -/
namespace Go.Proofs.Ytnpcfohimlfbdaa
open Go.RowKit
set_option linter.unusedVariables false

end Go.Proofs.Ytnpcfohimlfbdaa

/- Guess -/
namespace Go.Proofs.Ytnpcfohimlfbdaa
open Go.RowKit
set_option linter.unusedVariables false

end Go.Proofs.Ytnpcfohimlfbdaa

/- Long3 -/
namespace Go.Proofs.Ytnpcfohimlfbdaa
open Go.RowKit
set_option linter.unusedVariables false

end Go.Proofs.Ytnpcfohimlfbdaa

/- Divide -/
namespace Go.Proofs.Ytnpcfohimlfbdaa
open Go.RowKit
set_option linter.unusedVariables false

end Go.Proofs.Ytnpcfohimlfbdaa

/- Moved -/
namespace Go.Proofs.Ytnpcfohimlfbdaa
open Go.RowKit

end Go.Proofs.Ytnpcfohimlfbdaa

/- Shl -/
namespace Go.Proofs.Ytnpcfohimlfbdaa
open Go.RowKit

end Go.Proofs.Ytnpcfohimlfbdaa

/- Shr -/
namespace Go.Proofs.Ytnpcfohimlfbdaa
open Go.RowKit

end Go.Proofs.Ytnpcfohimlfbdaa

/- DivMod -/
namespace Go.Proofs.Ytnpcfohimlfbdaa
open Go.RowKit
set_option linter.unusedVariables false

end Go.Proofs.Ytnpcfohimlfbdaa

/- Exact0 -/
namespace Go.Proofs.Ytnpcfohimlfbdaa
open Go.RowKit
set_option linter.unusedVariables false

end Go.Proofs.Ytnpcfohimlfbdaa

/- ZDiv -/
namespace Go.Proofs.Ytnpcfohimlfbdaa
open Go.RowKit
set_option linter.unusedVariables false

theorem bset {B g j : Nat} {w w' : World} {u : Value} (h : Below B w w') (hg : B ≤ g) : Below B w (w'.setCell ⟨g, j, none⟩ u) := h.setCell (p := ⟨g, j, none⟩) hg u
/-- The result of a call that answers an integer and an error. -/
theorem zback1 {f : Func} {s1 s3 : Nat} (hr : f.results = #[ResultVar.cell s1 25, ResultVar.tmp s3]) {W : World} {b : Nat} {x y e : Value} (h : Duo W b x y) (tmps : Array Value) (ht : tmps[s1]? = some (.pointer (some ⟨b, 0, none⟩))) (he : tmps[s3]? = some e) :
    (results f tmps).run Try.prog W = .ok (.tuple #[.agg #[x, y], e]) W := by
  simp [results, hr, go_sem, ht, he, h.c0, h.c1]
end Go.Proofs.Ytnpcfohimlfbdaa

/- ZStore -/
namespace Go.Proofs.Ytnpcfohimlfbdaa
open Go.RowKit
set_option linter.unusedVariables false

/-- An integer in least form, wherever its words lie. -/
def Zc (w : World) (v : Value) (z : Int) (k : Nat) : Prop :=
  ∃ n zs a c, v = .agg #[.bool n, .slice a zs.length c] ∧ Sl w.heap.size w (.slice a zs.length c) zs ∧ Canon zs ∧ (zs = [] → n = false) ∧ iv n zs = z ∧ zs.length ≤ k
theorem Zm.zc {B : Nat} {w : World} {v : Value} {z : Int} {k : Nat} (h : Zm B w v z k) : Zc w v z k := by
  obtain ⟨n, xs, a, c, h1, h2, h3, h4, h5, h6⟩ := h
  exact ⟨n, xs, a, c, h1, h2.sl, h3, h4, h5, h6⟩
theorem Zc.zi {w : World} {v : Value} {z : Int} {k : Nat} (h : Zc w v z k) : Zi w v z k := by
  obtain ⟨n, xs, a, c, h1, h2, h3, h4, h5, h6⟩ := h
  exact ⟨n, xs, a, c, h1, h2, h5, h6⟩
theorem Zc.now {w w' : World} {v : Value} {z : Int} {k : Nat} (h : Zc w v z k) (hb : Below w.heap.size w w') : Zc w' v z k := by
  obtain ⟨n, xs, a, c, h1, h2, h3, h4, h5, h6⟩ := h
  exact ⟨n, xs, a, c, h1, h2.now hb, h3, h4, h5, h6⟩
theorem Zi.lt {w : World} {v : Value} {z : Int} {k : Nat} (h : Zi w v z k) : (z.natAbs : Int) < pw k := by
  obtain ⟨n, xs, a, c, h1, h2, h5, h6⟩ := h
  have e := val_nonneg h2.1
  have e2 := val_lt_pw h2.1
  have e3 := pw_up h6
  cases n <;> simp [iv] at h5 <;> omega
theorem Duo.blk {w : World} {b : Nat} {x y : Value} (h : Duo w b x y) : b < w.heap.size := (Array.getElem?_eq_some_iff.1 (show w.heap[b]? = _ from h)).1
theorem Duo.step {w w' : World} {b : Nat} {x y : Value} (h : Duo w b x y) (hb : Below w.heap.size w w') : Duo w' b x y := h.below hb h.blk
/-- Words that were there stay where they were, whatever boxes are written. -/
def Wk (w w' : World) : Prop := w.heap.size ≤ w'.heap.size ∧ ∀ g off x, w.cell? ⟨g, off, none⟩ = some (.int .u64 x) → w'.cell? ⟨g, off, none⟩ = some (.int .u64 x)
theorem Wk.trans {w w' w'' : World} (h : Wk w w') (h' : Wk w' w'') : Wk w w'' := ⟨Nat.le_trans h.1 h'.1, fun g o x e => h'.2 g o x (h.2 g o x e)⟩
theorem Wk.set {w : World} {p : Addr} {u v : Value} (h : w.cell? p = some u) (hu : ∀ x, u ≠ .int .u64 x) : Wk w (w.setCell p v) := by
  refine ⟨by simp, fun g off x e => ?_⟩
  rw [World.cell?_setCell_other _ _ _ _ (fun q => ?_)]
  · exact e
  · subst q
    rw [h] at e
    exact hu x (by simpa using e)
/-- A box of an integer: what is written into it touches no words. -/
theorem Duo.wk {w : World} {b : Nat} {n : Bool} {a : Option Addr} {l c : Nat} (h : Duo w b (.bool n) (.slice a l c)) (x y : Value) : Wk w ((w.setCell ⟨b, 0, none⟩ x).setCell ⟨b, 1, none⟩ y) := by
  refine (Wk.set h.c0 (by simp)).trans (Wk.set (u := .slice a l c) ?_ (by simp))
  rw [World.cell?_setCell_other _ _ _ _ (by simp)]
  exact h.c1
theorem Sl.wk {w w' : World} {v : Value} {xs : List Int} (h : Sl w.heap.size w v xs) (k : Wk w w') : Sl w'.heap.size w' v xs := by
  obtain ⟨h1, a, cap, h2, h3, h4, h5⟩ := h
  refine ⟨h1, a, cap, h2, h3, h4, ?_⟩
  rcases h5 with e | ⟨b, off, e, hb, hc⟩
  · exact .inl e
  · exact .inr ⟨b, off, e, Nat.lt_of_lt_of_le hb k.1, fun j hj => k.2 _ _ _ (hc j hj)⟩
theorem Zi.wk {w w' : World} {v : Value} {z : Int} {k : Nat} (h : Zi w v z k) (b : Wk w w') : Zi w' v z k := by
  obtain ⟨n, xs, a, c, h1, h2, h3, h4⟩ := h
  exact ⟨n, xs, a, c, h1, h2.wk b, h3, h4⟩
theorem Zc.wk {w w' : World} {v : Value} {z : Int} {k : Nat} (h : Zc w v z k) (b : Wk w w') : Zc w' v z k := by
  obtain ⟨n, xs, a, c, h1, h2, h3⟩ := h
  exact ⟨n, xs, a, c, h1, h2.wk b, h3⟩
/-- The like for rows of one's own: a box is no row. -/
theorem Row.box {w : World} {g b i : Nat} {L : List Value} {x y u : Value} (h : Row w g L) (d : Duo w b x y) : Row (w.setCell ⟨b, i, none⟩ u) g L := by
  have hne : g ≠ b := fun e => by
    subst e
    have := (show w.heap[g]? = _ from h).symm.trans (show w.heap[g]? = _ from d)
    simp at this
  exact (Below.heap_setCell w _ u g (fun e => hne (by simpa using e))).trans h
theorem Duo.set0 {w : World} {b : Nat} {x y : Value} (h : Duo w b x y) (u : Value) : Duo (w.setCell ⟨b, 0, none⟩ u) b u y := by
  have h' : w.heap[b]? = some (.cells #[x, y] 25 (0, 0)) := h
  have hlt : b < w.heap.size := h.blk
  have e : w.heap[b] = .cells #[x, y] 25 (0, 0) := (Array.getElem?_eq_some_iff.1 h').2
  unfold Duo World.setCell
  simp [hlt, Array.getElem_modify, e]
theorem Mine.box {B : Nat} {w : World} {v : Value} {zs : List Int} (h : Mine B w v zs) {b : Nat} {x y : Value} (d : Duo w b x y) (u u' : Value) : Mine B ((w.setCell ⟨b, 0, none⟩ u).setCell ⟨b, 1, none⟩ u') v zs := by
  obtain ⟨hw, h | ⟨g, r, cap, h1, h2, h3, h4, h5, h6⟩⟩ := h
  · exact ⟨hw, .inl h⟩
  · exact ⟨hw, .inr ⟨g, r, cap, h1, h2, h3, h4, h5, (h6.box d).box (d.set0 u)⟩⟩
theorem Zm.box {B : Nat} {w : World} {v : Value} {z : Int} {k : Nat} (h : Zm B w v z k) {b : Nat} {x y : Value} (d : Duo w b x y) (u u' : Value) : Zm B ((w.setCell ⟨b, 0, none⟩ u).setCell ⟨b, 1, none⟩ u') v z k := by
  obtain ⟨n, xs, a, c, h1, h2, h3⟩ := h
  exact ⟨n, xs, a, c, h1, h2.box d u u', h3⟩
theorem Duo.box {w : World} {b b' : Nat} {x y : Value} (h : Duo w b x y) (hne : b' ≠ b) (u u' : Value) : Duo ((w.setCell ⟨b', 0, none⟩ u).setCell ⟨b', 1, none⟩ u') b x y := (h.ne hne).ne hne
end Go.Proofs.Ytnpcfohimlfbdaa

/- Cells6 -/
namespace Go.Proofs.Ytnpcfohimlfbdaa
open Go.RowKit
set_option linter.unusedVariables false

/-- A block of these cells. -/
def Cel (w : World) (b : Nat) (T : TypeId) (L : List Value) : Prop := w.heap[b]? = some (.cells L.toArray T (0, 0))
theorem Cel.blk {w : World} {b : Nat} {T : TypeId} {L : List Value} (h : Cel w b T L) : b < w.heap.size := (Array.getElem?_eq_some_iff.1 (show w.heap[b]? = _ from h)).1
theorem Cel.at {w : World} {b : Nat} {T : TypeId} {L : List Value} (h : Cel w b T L) {i : Nat} {v : Value} (e : L[i]? = some v) : w.cell? ⟨b, i, none⟩ = some v := by
  simp [World.cell?, show w.heap[b]? = _ from h, e]
theorem Cel.fz {w : World} {b : Nat} {T : TypeId} {L : List Value} (h : Cel w b T L) (i : Nat) : w.frozen? ⟨b, i, none⟩ = false := by simp [World.frozen?, show w.heap[b]? = _ from h]
theorem Cel.step {w w' : World} {b : Nat} {T : TypeId} {L : List Value} (h : Cel w b T L) (hb : Below w.heap.size w w') : Cel w' b T L := (hb.block b h.blk).trans h
theorem Cel.new (w : World) (T : TypeId) (L : List Value) : Cel (w.alloc (.cells L.toArray T)) w.heap.size T L := heap_alloc_new w _
theorem Cel.ne {w : World} {b b' i : Nat} {T : TypeId} {L : List Value} {u : Value} (h : Cel w b T L) (hne : b' ≠ b) : Cel (w.setCell ⟨b', i, none⟩ u) b T L := by
  have e : (w.setCell ⟨b', i, none⟩ u).heap[b]? = w.heap[b]? := Below.heap_setCell w _ u b (fun e => by simp at e; omega)
  exact e.trans h
theorem Cel.set {w : World} {b : Nat} {T : TypeId} {L : List Value} (h : Cel w b T L) (i : Nat) (v : Value) : Cel (w.setCell ⟨b, i, none⟩ v) b T (L.set i v) := by
  have h' : w.heap[b]? = some (.cells L.toArray T (0, 0)) := h
  have hlt : b < w.heap.size := h.blk
  have e : w.heap[b] = .cells L.toArray T (0, 0) := (Array.getElem?_eq_some_iff.1 h').2
  unfold Cel World.setCell
  simp [hlt, Array.getElem_modify, e]
theorem Cel.wk {w : World} {b : Nat} {T : TypeId} {L : List Value} (h : Cel w b T L) {i : Nat} {u : Value} (e : L[i]? = some u) (hu : ∀ x, u ≠ .int .u64 x) (v : Value) : Wk w (w.setCell ⟨b, i, none⟩ v) := Wk.set (h.at e) hu

/-- What holds no word may be written over. -/
def NoW (u : Value) : Prop := ∀ x, u ≠ .int .u64 x
theorem noB (n : Bool) : NoW (.bool n) := by intro x; simp
theorem noS (a : Option Addr) (l c : Nat) : NoW (.slice a l c) := by intro x; simp
end Go.Proofs.Ytnpcfohimlfbdaa

/- Zlaw0 -/
namespace Go.Proofs.Ytnpcfohimlfbdaa
open Go.RowKit
set_option linter.unusedVariables false

end Go.Proofs.Ytnpcfohimlfbdaa
