/-
  OverToRooms: Over, Rooms, joined.
-/
import Derived.Test.YtnbjlpeclaieeaaHolds
import Derived.Laws.CopyOwn

/- Over -/
namespace Go.Proofs.Ytnbjlpeclaieeaa
open Go.RowKit

theorem Row.inj {w : World} {g : Nat} {L L' : List Value} (h : Row w g L) (h' : Row w g L') : L = L' := by
  have := h.symm.trans h'
  simpa using this

theorem wpList_copy_over (w : World) {ops : Array Oper} {rest : List Oper} {o : Oper} {a : Act} {Q : Exit → Act → World → Prop}
    (hgd : o.guard = none) (d s : Operand) (hop : o.op = .call { callee := .builtin .copy, args := #[d, s], argTypes := #[22, 22] })
    (g gs n capD capS : Nat) (xs T : List Int) (r r' : List Value) (hrow : Row w g (ws xs ++ r)) (hsrc : Row w gs (ws T ++ r')) (hx : xs.length = n) (hT : T.length = n)
    (hd : a.eval d = .slice (some ⟨g, 0, none⟩) n capD) (hs : a.eval s = .slice (some ⟨gs, 0, none⟩) n capS)
    (hK : ∀ w', Hid (Row w' g (ws T ++ r)) → Hid (Touch (· = g) w w') → wpList Try.prog ops Q rest (a.put o.dst (goInt n)) w') :
    wpList Try.prog ops Q (o :: rest) a w := by
  have hl : (ws T).length = n := by rw [length_ws, hT]
  have hlx : (ws xs).length = n := by rw [length_ws, hx]
  refine wpList_copy_own hgd d s 22 22 hop 32 Try.underlying22 Try.sizeW g 0 n capD ⟨gs, 0, none⟩ n capS hd hs (ws xs ++ r).toArray 32 hrow (ws T) (by rw [hl]; exact (Nat.min_self n).symm) ?_ (by simp [hl, hlx]) ?_ ?_
  · intro j v hj
    have hj' : j < T.length := by
      have := (List.getElem?_eq_some_iff.1 hj).1
      simpa [length_ws] using this
    have e : (⟨gs, 0, none⟩ : Addr).add j = ⟨gs, j, none⟩ := by unfold Addr.add; split <;> simp_all
    rw [e, hsrc.word hj', ← hj]
    simp [ws, hj']
  · intro v hv
    simp only [ws, List.mem_map] at hv
    obtain ⟨x, _, rfl⟩ := hv
    rfl
  · rw [hl]
    have e : ((ws xs ++ r).toArray.toList.take 0 ++ (ws T ++ (ws xs ++ r).toArray.toList.drop (0 + n))).toArray = (ws T ++ r).toArray := by
      simp [← hlx]
    rw [e]
    refine hK _ ?_ ?_
    · unfold Hid Row at *
      simp [World.setRow, Array.getElem?_modify, hrow]
    · exact ⟨rfl, rfl, rfl, by simp [World.setRow], fun k _ hk => setRow_other w g k _ hk⟩

/-- What is known of some blocks. -/
def Anch (w : World) (As : List (Nat × Obj)) : Prop := ∀ p ∈ As, w.heap[p.1]? = some p.2
theorem Anch.nil (w : World) : Anch w [] := fun _ h => by cases h
theorem Anch.cons {w : World} {b : Nat} {o : Obj} {As : List (Nat × Obj)} (h : w.heap[b]? = some o) (hs : Anch w As) : Anch w ((b, o) :: As) := fun p hp => by
  rcases List.mem_cons.1 hp with rfl | hp
  · exact h
  · exact hs p hp
theorem Anch.touch {S : Nat → Prop} {w w' : World} {As : List (Nat × Obj)} (h : Anch w As) (ht : Touch S w w') (hS : ∀ p ∈ As, ¬ S p.1) : Anch w' As := fun p hp =>
  (ht.block p.1 (Array.getElem?_eq_some_iff.1 (h p hp)).1 (hS p hp)).trans (h p hp)
theorem Anch.below {w w' : World} {As : List (Nat × Obj)} (h : Anch w As) (hb : Below w.heap.size w w') : Anch w' As := fun p hp =>
  (hb.block p.1 (Array.getElem?_eq_some_iff.1 (h p hp)).1).trans (h p hp)
theorem Anch.at {w : World} {As : List (Nat × Obj)} (h : Anch w As) {b : Nat} {o : Obj} (hm : (b, o) ∈ As) : w.heap[b]? = some o := h _ hm
theorem Anch.cell {w : World} {As : List (Nat × Obj)} (h : Anch w As) {b : Nat} {cs : Array Value} {t : TypeId} {f : Nat × Nat} (hm : (b, Obj.cells cs t f) ∈ As) (j : Nat) : w.cell? ⟨b, j, none⟩ = cs[j]? := by
  have := h _ hm
  simp [World.cell?, this]
end Go.Proofs.Ytnbjlpeclaieeaa

/- Rooms -/
namespace Go.Proofs.Ytnbjlpeclaieeaa
open Go.RowKit
set_option linter.unusedVariables false

def mrk (n : Nat) : List Int := (List.range 80).map fun j => 6510516211317473280 + ((n + j : Nat) : Int)
theorem roomy_eq (xs : List Int) : roomy xs = xs ++ mrk xs.length := rfl
theorem ws_roomy (xs : List Int) : ws (roomy xs) = ws xs ++ ws (mrk xs.length) := by rw [roomy_eq]; simp [ws]
/-- Block g holds what Roomy made of xs. -/
def Rm (w : World) (g : Nat) (xs : List Int) : Prop := Row w g (ws (roomy xs))
theorem Rm.lt {w : World} {g : Nat} {xs : List Int} (h : Rm w g xs) : g < w.heap.size := Row.lt h
theorem Rm.step {w w' : World} {g : Nat} {xs : List Int} (h : Rm w g xs) (hb : Below w.heap.size w w') : Rm w' g xs := Row.below h hb (Row.lt h)
theorem Rm.full {w : World} {g : Nat} {xs : List Int} (h : Rm w g xs) (hw : WF xs) {n : Nat} (hn : xs.length = n) (hl : n ≤ 2000000) : Sl w.heap.size w (.slice (some ⟨g, 0, none⟩) (n + 80) (n + 80)) (roomy xs) := by
  have := Row.sl (r := []) (xs := roomy xs) (by rw [List.append_nil]; exact h) (roomy_wf hw (by omega)) (cap := n + 80) (by rw [roomy_len, hn]; exact Nat.le_refl _) (by omega) h.lt
  rwa [roomy_len, hn] at this
theorem Rm.part {w : World} {g : Nat} {xs : List Int} (h : Rm w g xs) (hw : WF xs) {n : Nat} (hn : xs.length = n) (hl : n ≤ 2000000) : Sl w.heap.size w (.slice (some ⟨g, 0, none⟩) n (n + 80)) xs := by
  have := Row.sl (r := ws (mrk xs.length)) (xs := xs) (by rw [← ws_roomy]; exact h) hw (cap := n + 80) (by omega) (by omega) h.lt
  rwa [hn] at this
theorem Rm.over {w : World} {g : Nat} {xs T : List Int} (hT : T.length = xs.length) (h : Row w g (ws T ++ ws (mrk xs.length))) : Rm w g T := by
  unfold Rm; rw [ws_roomy, hT]; exact h
theorem Rm.touch {w w' : World} {g g' : Nat} {xs : List Int} (h : Rm w g xs) (ht : Touch (· = g') w w') (hne : g ≠ g') : Rm w' g xs := ht.row h hne
theorem Row.whole {w : World} {g : Nat} {xs : List Int} (h : Row w g (ws xs)) (hw : WF xs) {n : Nat} (hn : xs.length = n) (hl : n ≤ 2000000) : Sl w.heap.size w (.slice (some ⟨g, 0, none⟩) n n) xs := by
  have := Row.sl (r := []) (xs := xs) (by simpa using h) hw (cap := n) (by omega) (by omega) h.lt
  rwa [hn] at this
theorem Row.step {w w' : World} {g : Nat} {L : List Value} (h : Row w g L) (hb : Below w.heap.size w w') : Row w' g L := Row.below h hb (Row.lt h)
theorem Row.touch {w w' : World} {g g' : Nat} {L : List Value} (h : Row w g L) (ht : Touch (· = g') w w') (hne : g ≠ g') : Row w' g L := ht.row h hne

/-- The call's box lies at its place; below it nothing has turned. -/
def Bx (w : World) (O : Obj) (wr : World) : Prop := Below w.heap.size w wr ∧ wr.heap[w.heap.size]? = some O
theorem Bx.lt {w wr : World} {O : Obj} (h : Bx w O wr) : w.heap.size < wr.heap.size := (Array.getElem?_eq_some_iff.1 h.2).1
theorem Bx.start (w : World) (O : Obj) : Bx w O (w.alloc O) := ⟨(Below.refl _ _).alloc (Nat.le_refl _) _, heap_alloc_new w O⟩
theorem Bx.step {w wr w' : World} {O : Obj} (h : Bx w O wr) (k : Below wr.heap.size wr w') : Bx w O w' := ⟨below_step h.1 k, (k.block _ h.lt).trans h.2⟩
theorem Bx.touch {w wr w' : World} {O : Obj} {g : Nat} (h : Bx w O wr) (k : Touch (· = g) wr w') (hg : w.heap.size < g) : Bx w O w' :=
  ⟨⟨k.os.trans h.1.os, k.tape.trans h.1.tape, k.output.trans h.1.output, Nat.le_trans h.1.size k.size, fun j hj => (k.block j (Nat.lt_of_lt_of_le hj h.1.size) (by omega)).trans (h.1.block j hj)⟩, (k.block _ h.lt (by omega)).trans h.2⟩
theorem Bx.cell {w wr : World} {cs : Array Value} {t : TypeId} (h : Bx w (.cells cs t) wr) (j : Nat) : wr.cell? ⟨w.heap.size, j, none⟩ = cs[j]? := by
  have := h.2
  simp [World.cell?, this]
theorem touch_set (w : World) (g j : Nat) (x : Value) : Touch (· = g) w (w.setCell ⟨g, j, none⟩ x) :=
  Touch.setCell (S := fun k => k = g) (Touch.refl _ w) (.inr rfl) j x
theorem Rm.set {w : World} {g : Nat} {xs : List Int} (h : Rm w g xs) (hl : 0 < xs.length) (x : Int) : Rm (w.setCell ⟨g, 0, none⟩ (.int .u64 x)) g (xs.set 0 x) := by
  refine Rm.over (xs := xs) (by simp) ?_
  exact Row.setWord (by rw [← ws_roomy]; exact h) hl x
theorem WF.set0 {xs : List Int} (h : WF xs) {x : Int} (hx : 0 ≤ x ∧ x ≤ 1) : WF (xs.set 0 x) := h.set 0 (by unfold IsW wB; omega)
theorem kept_now {w : World} {v u : Value} {ls xs : List Int} (h : Sl w.heap.size w v ls) (h' : Sl w.heap.size w u xs) (he : ls = roomy xs) :
    Calls Try.prog 10 #[v, u] w fun e w' => e = .returned (.bool true) ∧ Below w.heap.size w w' :=
  (kept_yes h h' he).mono fun e w' ⟨h1, n, h2⟩ => ⟨h1, by subst h2; exact below_drewN (Below.refl _ _) n⟩

end Go.Proofs.Ytnbjlpeclaieeaa
