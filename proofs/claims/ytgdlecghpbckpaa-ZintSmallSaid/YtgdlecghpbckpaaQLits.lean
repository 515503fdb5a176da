/-
  Lits: lists that a call writes down; answers as slices.
-/
import Derived.Test.YtgdlecghpbckpaaQAdd
namespace Go.Proofs.Ytgdlecghpbckpaa
open Go.RowKit

theorem Row.new (w : World) (xs : List Int) : Row (w.alloc (.cells (ws xs).toArray 35)) w.heap.size (ws xs) := heap_alloc_new w _
theorem Row.new_sl (w : World) (xs : List Int) (hx : WF xs) (h : xs.length ≤ 35184372088832) : Sl (w.heap.size + 1) (w.alloc (.cells (ws xs).toArray 35)) (.slice (some ⟨w.heap.size, 0, none⟩) xs.length xs.length) xs := by
  exact Row.sl (r := []) (by simpa using Row.new w xs) hx (Nat.le_refl _) h (Nat.lt_succ_self _)
theorem Sl.alloc {w : World} {B : Nat} {v : Value} {xs : List Int} (h : Sl B w v xs) (hB : B ≤ w.heap.size) (o : Obj) : Sl B (w.alloc o) v xs :=
  h.below (B' := w.heap.size) ((Below.refl _ _).alloc (Nat.le_refl _) o) hB

theorem wf_word {x : Int} {r : List Int} (h : 0 ≤ x ∧ x ≤ 18446744073709551615) (hr : WF r) : WF (x :: r) := WF.cons (by unfold IsW wB; omega) hr

/-- A list that the call itself writes down, in the last block. -/
theorem lit_last (w : World) (xs : List Int) (cs : Array Value) (hcs : cs = (ws xs).toArray) (hx : WF xs) (h : xs.length ≤ 35184372088832) (n : Nat) (hn : n = xs.length) :
    Sl (w.alloc (.cells cs 35)).heap.size (w.alloc (.cells cs 35)) (.slice (some ⟨w.heap.size, 0, none⟩) n n) xs := by
  subst hcs
  subst hn
  exact (Row.new_sl w xs hx h).mono (by simp)
/-- A list that lay there before. -/
theorem Sl.later {w : World} {v : Value} {xs : List Int} (h : Sl w.heap.size w v xs) (o : Obj) : Sl (w.alloc o).heap.size (w.alloc o) v xs := (h.alloc (Nat.le_refl _) o).mono (by simp)
theorem Sl.now {w w' : World} {v : Value} {xs : List Int} (h : Sl w.heap.size w v xs) (hb : Below w.heap.size w w') : Sl w'.heap.size w' v xs := (h.below hb (Nat.le_refl _)).mono hb.size
/-- The answer of Add as a slice. -/
theorem added_sl {w w' : World} {s : Int} {k : Nat} {e : Ending} (h : Added w s k e w') : ∃ zs v, e = .returned v ∧ Sl w'.heap.size w' v zs ∧ Canon zs ∧ val zs = s ∧ zs.length ≤ k ∧ Below w.heap.size w w' := by
  obtain ⟨zs, cap, r, rfl, hc, hv, hk, hl, hm, hr, hb, hs⟩ := h
  exact ⟨zs, _, rfl, hr.sl hc.1 (by omega) hm hs, hc, hv, hk, hb⟩

end Go.Proofs.Ytgdlecghpbckpaa
