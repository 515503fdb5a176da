/-
  Rooms: lists with marked spare room, a call's box: what is carried from call to call.
-/
import Derived.Test.YtagfekcocdjhlaaDoorNumbers
import Derived.Test.YtagfekcocdjhlaaDoorOver
namespace Go.Proofs.YtagfekcocdjhlaaDoor
open Go.RowKit
set_option linter.unusedVariables false

def mrk (n : Nat) : List Int := (List.range 80).map fun j => 6510516211317473280 + ((n + j : Nat) : Int)
theorem roomy_eq (xs : List Int) : roomy xs = xs ++ mrk xs.length := rfl
theorem ws_roomy (xs : List Int) : ws (roomy xs) = ws xs ++ ws (mrk xs.length) := by rw [roomy_eq]; simp [ws]
/-- Block g holds what Roomy made of xs. -/
def Rm (w : World) (g : Nat) (xs : List Int) : Prop := Row w g (ws (roomy xs))
theorem Rm.lt {w : World} {g : Nat} {xs : List Int} (h : Rm w g xs) : g < w.heap.size := Row.lt h
theorem Rm.step {w w' : World} {g : Nat} {xs : List Int} (h : Rm w g xs) (hb : Below w.heap.size w w') : Rm w' g xs := Row.below h hb (Row.lt h)
theorem Rm.full {w : World} {g : Nat} {xs : List Int} (h : Rm w g xs) (hw : WF xs) {n : Nat} (hn : xs.length = n) (hl : n ≤ 2000000) : Sl w.heap.size w (.slice (some ⟨g, 0, none⟩) (n + 80) (n + 80)) (roomy xs) := by
  have := Row.sl (r := []) (xs := roomy xs) (by rw [List.append_nil]; exact h) (roomy_wf hw (by omega)) (cap := n + 80) (by rw [roomy_len, hn]; exact Nat.le_refl _) (by omega) h.lt
  rwa [roomy_len, hn] at this
theorem Rm.part {w : World} {g : Nat} {xs : List Int} (h : Rm w g xs) (hw : WF xs) {n : Nat} (hn : xs.length = n) (hl : n ≤ 2000000) : Sl w.heap.size w (.slice (some ⟨g, 0, none⟩) n (n + 80)) xs := by
  have := Row.sl (r := ws (mrk xs.length)) (xs := xs) (by rw [← ws_roomy]; exact h) hw (cap := n + 80) (by omega) (by omega) h.lt
  rwa [hn] at this
theorem Rm.over {w : World} {g : Nat} {xs T : List Int} (hT : T.length = xs.length) (h : Row w g (ws T ++ ws (mrk xs.length))) : Rm w g T := by
  unfold Rm; rw [ws_roomy, hT]; exact h
theorem Rm.touch {w w' : World} {g g' : Nat} {xs : List Int} (h : Rm w g xs) (ht : Touch (· = g') w w') (hne : g ≠ g') : Rm w' g xs := ht.row h hne
theorem Row.whole {w : World} {g : Nat} {xs : List Int} (h : Row w g (ws xs)) (hw : WF xs) {n : Nat} (hn : xs.length = n) (hl : n ≤ 2000000) : Sl w.heap.size w (.slice (some ⟨g, 0, none⟩) n n) xs := by
  have := Row.sl (r := []) (xs := xs) (by simpa using h) hw (cap := n) (by omega) (by omega) h.lt
  rwa [hn] at this
theorem Row.step {w w' : World} {g : Nat} {L : List Value} (h : Row w g L) (hb : Below w.heap.size w w') : Row w' g L := Row.below h hb (Row.lt h)
theorem Row.touch {w w' : World} {g g' : Nat} {L : List Value} (h : Row w g L) (ht : Touch (· = g') w w') (hne : g ≠ g') : Row w' g L := ht.row h hne

/-- The call's box lies at its place; below it nothing has turned. -/
def Bx (w : World) (O : Obj) (wr : World) : Prop := Below w.heap.size w wr ∧ wr.heap[w.heap.size]? = some O
theorem Bx.lt {w wr : World} {O : Obj} (h : Bx w O wr) : w.heap.size < wr.heap.size := (Array.getElem?_eq_some_iff.1 h.2).1
theorem Bx.start (w : World) (O : Obj) : Bx w O (w.alloc O) := ⟨(Below.refl _ _).alloc (Nat.le_refl _) _, heap_alloc_new w O⟩
theorem Bx.step {w wr w' : World} {O : Obj} (h : Bx w O wr) (k : Below wr.heap.size wr w') : Bx w O w' := ⟨below_step h.1 k, (k.block _ h.lt).trans h.2⟩
theorem Bx.touch {w wr w' : World} {O : Obj} {g : Nat} (h : Bx w O wr) (k : Touch (· = g) wr w') (hg : w.heap.size < g) : Bx w O w' :=
  ⟨⟨k.os.trans h.1.os, k.tape.trans h.1.tape, k.output.trans h.1.output, Nat.le_trans h.1.size k.size, fun j hj => (k.block j (Nat.lt_of_lt_of_le hj h.1.size) (by omega)).trans (h.1.block j hj)⟩, (k.block _ h.lt (by omega)).trans h.2⟩
theorem Bx.cell {w wr : World} {cs : Array Value} {t : TypeId} (h : Bx w (.cells cs t) wr) (j : Nat) : wr.cell? ⟨w.heap.size, j, none⟩ = cs[j]? := by
  have := h.2
  simp [World.cell?, this]
theorem touch_set (w : World) (g j : Nat) (x : Value) : Touch (· = g) w (w.setCell ⟨g, j, none⟩ x) :=
  Touch.setCell (S := fun k => k = g) (Touch.refl _ w) (.inr rfl) j x
theorem Rm.set {w : World} {g : Nat} {xs : List Int} (h : Rm w g xs) (hl : 0 < xs.length) (x : Int) : Rm (w.setCell ⟨g, 0, none⟩ (.int .u64 x)) g (xs.set 0 x) := by
  refine Rm.over (xs := xs) (by simp) ?_
  exact Row.setWord (by rw [← ws_roomy]; exact h) hl x
theorem WF.set0 {xs : List Int} (h : WF xs) {x : Int} (hx : 0 ≤ x ∧ x ≤ 1) : WF (xs.set 0 x) := h.set 0 (by unfold IsW wB; omega)
theorem kept_now {w : World} {v u : Value} {ls xs : List Int} (h : Sl w.heap.size w v ls) (h' : Sl w.heap.size w u xs) (he : ls = roomy xs) :
    Calls Tryd.prog 10 #[v, u] w fun e w' => e = .returned (.bool true) ∧ Below w.heap.size w w' :=
  (kept_yes h h' he).mono fun e w' ⟨h1, n, h2⟩ => ⟨h1, by subst h2; exact below_drewN (Below.refl _ _) n⟩

end Go.Proofs.YtagfekcocdjhlaaDoor
