/-
  Signed: the contract of signed; boxes of two cells.
-/
import Derived.Test.YtgdlecghpbckpaaQZed
namespace Go.Proofs.Ytgdlecghpbckpaa
open Go.RowKit
set_option linter.unusedVariables false

/-- A box of two cells. -/
def Duo (w : World) (b : Nat) (x y : Value) : Prop := w.heap[b]? = some (.cells #[x, y] 24 (0, 0))
abbrev duo (x y : Value) : Obj := .cells #[x, y] 24
abbrev zbox : Obj := .cells #[.bool false, .slice none 0 0] 24
theorem Duo.c0 {w : World} {b : Nat} {x y : Value} (h : Duo w b x y) : w.cell? ⟨b, 0, none⟩ = some x := by simp [World.cell?, show w.heap[b]? = _ from h]
theorem Duo.c1 {w : World} {b : Nat} {x y : Value} (h : Duo w b x y) : w.cell? ⟨b, 1, none⟩ = some y := by simp [World.cell?, show w.heap[b]? = _ from h]
theorem Duo.fz {w : World} {b : Nat} {x y : Value} (h : Duo w b x y) (i : Nat) : w.frozen? ⟨b, i, none⟩ = false := by simp [World.frozen?, show w.heap[b]? = _ from h]
theorem Duo.below {w w' : World} {b B : Nat} {x y : Value} (h : Duo w b x y) (hb : Below B w w') (hB : b < B) : Duo w' b x y := (hb.block b hB).trans h
theorem Duo.new (w : World) (x y : Value) : Duo (w.alloc (duo x y)) w.heap.size x y := heap_alloc_new w _
theorem Duo.later {w : World} {b : Nat} {x y : Value} (h : Duo w b x y) (hb : b < w.heap.size) (o : Obj) : Duo (w.alloc o) b x y := h.below ((Below.refl _ _).alloc (Nat.le_refl _) o) hb

theorem Duo.set {w : World} {b : Nat} {x y : Value} (h : Duo w b x y) (x' y' : Value) : Duo ((w.setCell ⟨b, 0, none⟩ x').setCell ⟨b, 1, none⟩ y') b x' y' := by
  have h' : w.heap[b]? = some (.cells #[x, y] 24 (0, 0)) := h
  have hlt : b < w.heap.size := (Array.getElem?_eq_some_iff.1 h').1
  have e : w.heap[b] = .cells #[x, y] 24 (0, 0) := (Array.getElem?_eq_some_iff.1 h').2
  unfold Duo World.setCell
  simp [hlt, Array.getElem_modify, e]
/-- The result that lies in a box of two cells. -/
theorem zback {f : Func} {s : Nat} (hr : f.results = #[ResultVar.cell s 24]) {W : World} {b : Nat} {x y : Value} (h : Duo W b x y) (tmps : Array Value) (ht : tmps[s]? = some (.pointer (some ⟨b, 0, none⟩))) :
    (results f tmps).run Try.prog W = .ok (.agg #[x, y]) W := by
  simp [results, hr, go_sem, ht, h.c0, h.c1]

set_option maxHeartbeats 800000 in
theorem signed_any (w : World) (n : Bool) (l : Nat) (a : Option Addr) (c : Nat) (hl : l ≤ 35184372088832) :
    Calls Try.prog 10 #[.bool n, .slice a l c] w fun e w' => e = .returned (.agg #[.bool (n && decide (0 < l)), .slice a l c]) ∧ Below w.heap.size w w' := by
  have k := (Below.refl w.heap.size w).alloc (Nat.le_refl _) (duo (.bool (n && decide (0 < l))) (.slice a l c))
  cases n
  · go_enter Try.func10, Try.ntmps10
    go_wp2
    exact bodyPost_ret (zback Try.results10 (Duo.new w _ _) _ (by rfl)) rfl ⟨rfl, k⟩
  · by_cases h : 0 < l
    · have h' : (0 : Int) < (l : Int) := by omega
      simp only [h, decide_true, Bool.and_self] at k ⊢
      go_enter Try.func10, Try.ntmps10
      go_wp2
      exact bodyPost_ret (zback Try.results10 (Duo.new w _ _) _ (by rfl)) rfl ⟨rfl, k⟩
    · have h' : ¬ (0 : Int) < (l : Int) := by omega
      simp only [h, decide_false, Bool.and_false] at k ⊢
      go_enter Try.func10, Try.ntmps10
      go_wp2
      exact bodyPost_ret (zback Try.results10 (Duo.new w _ _) _ (by rfl)) rfl ⟨rfl, k⟩
end Go.Proofs.Ytgdlecghpbckpaa
