/-
  Over: a list written over in place, all else as it was; what is known of many blocks, carried at once.
-/
import Derived.Test.YtagfekcocdjhlaaDoorHolds
import Derived.Laws.CopyOwn
namespace Go.Proofs.YtagfekcocdjhlaaDoor
open Go.RowKit

theorem Row.inj {w : World} {g : Nat} {L L' : List Value} (h : Row w g L) (h' : Row w g L') : L = L' := by
  have := h.symm.trans h'
  simpa using this

theorem wpList_copy_over (w : World) {ops : Array Oper} {rest : List Oper} {o : Oper} {a : Act} {Q : Exit → Act → World → Prop}
    (hgd : o.guard = none) (d s : Operand) (hop : o.op = .call { callee := .builtin .copy, args := #[d, s], argTypes := #[22, 22] })
    (g gs n capD capS : Nat) (xs T : List Int) (r r' : List Value) (hrow : Row w g (ws xs ++ r)) (hsrc : Row w gs (ws T ++ r')) (hx : xs.length = n) (hT : T.length = n)
    (hd : a.eval d = .slice (some ⟨g, 0, none⟩) n capD) (hs : a.eval s = .slice (some ⟨gs, 0, none⟩) n capS)
    (hK : ∀ w', Hid (Row w' g (ws T ++ r)) → Hid (Touch (· = g) w w') → wpList Tryd.prog ops Q rest (a.put o.dst (goInt n)) w') :
    wpList Tryd.prog ops Q (o :: rest) a w := by
  have hl : (ws T).length = n := by rw [length_ws, hT]
  have hlx : (ws xs).length = n := by rw [length_ws, hx]
  refine wpList_copy_own hgd d s 22 22 hop 42 Tryd.underlying22 Tryd.sizeW g 0 n capD ⟨gs, 0, none⟩ n capS hd hs (ws xs ++ r).toArray 42 hrow (ws T) (by rw [hl]; exact (Nat.min_self n).symm) ?_ (by simp [hl, hlx]) ?_ ?_
  · intro j v hj
    have hj' : j < T.length := by
      have := (List.getElem?_eq_some_iff.1 hj).1
      simpa [length_ws] using this
    have e : (⟨gs, 0, none⟩ : Addr).add j = ⟨gs, j, none⟩ := by unfold Addr.add; split <;> simp_all
    rw [e, hsrc.word hj', ← hj]
    simp [ws, hj']
  · intro v hv
    simp only [ws, List.mem_map] at hv
    obtain ⟨x, _, rfl⟩ := hv
    rfl
  · rw [hl]
    have e : ((ws xs ++ r).toArray.toList.take 0 ++ (ws T ++ (ws xs ++ r).toArray.toList.drop (0 + n))).toArray = (ws T ++ r).toArray := by
      simp [← hlx]
    rw [e]
    refine hK _ ?_ ?_
    · unfold Hid Row at *
      simp [World.setRow, Array.getElem?_modify, hrow]
    · exact ⟨rfl, rfl, rfl, by simp [World.setRow], fun k _ hk => setRow_other w g k _ hk⟩

/-- What is known of some blocks. -/
def Anch (w : World) (As : List (Nat × Obj)) : Prop := ∀ p ∈ As, w.heap[p.1]? = some p.2
theorem Anch.nil (w : World) : Anch w [] := fun _ h => by cases h
theorem Anch.cons {w : World} {b : Nat} {o : Obj} {As : List (Nat × Obj)} (h : w.heap[b]? = some o) (hs : Anch w As) : Anch w ((b, o) :: As) := fun p hp => by
  rcases List.mem_cons.1 hp with rfl | hp
  · exact h
  · exact hs p hp
theorem Anch.touch {S : Nat → Prop} {w w' : World} {As : List (Nat × Obj)} (h : Anch w As) (ht : Touch S w w') (hS : ∀ p ∈ As, ¬ S p.1) : Anch w' As := fun p hp =>
  (ht.block p.1 (Array.getElem?_eq_some_iff.1 (h p hp)).1 (hS p hp)).trans (h p hp)
theorem Anch.below {w w' : World} {As : List (Nat × Obj)} (h : Anch w As) (hb : Below w.heap.size w w') : Anch w' As := fun p hp =>
  (hb.block p.1 (Array.getElem?_eq_some_iff.1 (h p hp)).1).trans (h p hp)
theorem Anch.at {w : World} {As : List (Nat × Obj)} (h : Anch w As) {b : Nat} {o : Obj} (hm : (b, o) ∈ As) : w.heap[b]? = some o := h _ hm
theorem Anch.cell {w : World} {As : List (Nat × Obj)} (h : Anch w As) {b : Nat} {cs : Array Value} {t : TypeId} {f : Nat × Nat} (hm : (b, Obj.cells cs t f) ∈ As) (j : Nat) : w.cell? ⟨b, j, none⟩ = cs[j]? := by
  have := h _ hm
  simp [World.cell?, this]
end Go.Proofs.YtagfekcocdjhlaaDoor
