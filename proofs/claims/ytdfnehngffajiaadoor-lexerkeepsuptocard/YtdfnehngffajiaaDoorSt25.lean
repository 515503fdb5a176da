/-
  St25: a list of texts that a call gathers by append.
-/
import Derived.Test.YtdfnehngffajiaaDoorBase
import Derived.Deep.AppendLies
import Derived.Below
namespace Go.Proofs.YtdfnehngffajiaaDoor
open Go.RowKit
set_option linter.unusedVariables false

theorem Tryd.infoSt25 : (Tryd.prog.info? 9).map (fun i => (i.zero, i.size, i.bytes)) = some (some (.string ⟨#[]⟩), 1, 16) := by kernel_rfl
theorem head_add25 (g j : Nat) : (⟨g, 0, none⟩ : Addr).add j = ⟨g, j, none⟩ := by unfold Addr.add; split <;> simp_all
def strV (L : List ByteArray) : List Value := L.map Value.string
theorem strV_len (L : List ByteArray) : (strV L).length = L.length := by simp [strV]
/-- The slice value v gathers the texts L; its row lies from block B on. -/
def Strs (B : Nat) (w : World) (v : Value) (L : List ByteArray) : Prop := w.ownsRow B 9 1 v L.length (strV L)
theorem Strs.nil (B : Nat) (w : World) : Strs B w (.slice none 0 0) [] := World.ownsRow_nil _ _ _ _
theorem Strs.keep {B : Nat} {w w' : World} {v : Value} {L : List ByteArray} (h : Strs B w v L) (hb : ∀ g, B ≤ g → g < w.heap.size → w'.heap[g]? = w.heap[g]?) : Strs B w' v L := by
  obtain ⟨q1, q2 | ⟨g, cap, cur, q2, q3, q4, q5⟩⟩ := h
  · exact ⟨q1, .inl q2⟩
  · exact ⟨q1, .inr ⟨g, cap, cur, q2, q3, (hb g q3 (Array.getElem?_eq_some_iff.1 q4).1).trans q4, q5⟩⟩
theorem Strs.now {B : Nat} {w w' : World} {v : Value} {L : List ByteArray} (h : Strs B w v L) (hb : Below w.heap.size w w') : Strs B w' v L := h.keep fun g _ hg => hb.block g hg
theorem Strs.form {B : Nat} {w : World} {v : Value} {L : List ByteArray} (h : Strs B w v L) : ∃ a cap, v = .slice a L.length cap := by
  obtain ⟨q1, ⟨q2, q3⟩ | ⟨g, cap, cur, q2, _⟩⟩ := h
  · exact ⟨none, 0, by rw [q2, q3]⟩
  · exact ⟨_, cap, q2⟩
theorem Strs.at {B : Nat} {w : World} {a : Option Addr} {n cap : Nat} {L : List ByteArray} (h : Strs B w (.slice a n cap) L) {j : Nat} (hj : j < L.length) : ∃ g, a = some ⟨g, 0, none⟩ ∧ B ≤ g ∧ w.cell? ⟨g, j, none⟩ = some (.string L[j]) := by
  have h' := h
  obtain ⟨q1, ⟨q2, q3⟩ | ⟨g, cap', cur, q2, q3, q4, q5⟩⟩ := h
  · omega
  · simp only [Value.slice.injEq] at q2
    obtain ⟨rfl, rfl, rfl⟩ := q2
    have := World.ownsRow.cells h' (g := g) rfl j (.string L[j]) (by simp [strV, hj])
    rw [head_add25] at this
    exact ⟨g, rfl, q3, this⟩
theorem wpList_append_str25 (w : World) {ops : Array Oper} {rest : List Oper} {o : Oper} {a : Act} {Q : Exit → Act → World → Prop}
    (hgd : o.guard = none) (s x : Operand) (hop : o.op = .call { callee := .builtin .append, args := #[s, x], argTypes := #[26, 26] })
    (B : Nat) (v : Value) (L : List ByteArray) (c : ByteArray) (hs : a.eval s = v) (hB : Strs B w v L) (g : Nat) (hx : a.eval x = .slice (some ⟨g, 0, none⟩) 1 1) (hc : w.cell? ⟨g, 0, none⟩ = some (.string c)) (hlen : L.length ≤ 1000000000000) (hBs : B ≤ w.heap.size)
    (hK : ∀ m a' cap' w', Hid (m = L.length + 1) → Hid (Strs B w' (.slice a' m cap') (L ++ [c])) → Hid (Below B w w') → wpList Tryd.prog ops Q rest (a.put o.dst (.slice a' m cap')) w') :
    wpList Tryd.prog ops Q (o :: rest) a w := by
  obtain ⟨i, hi, hz, hsz, hby⟩ := info_parts Tryd.infoSt25
  refine wpList_append_lies w hgd s x 26 hop B 9 i (.string ⟨#[]⟩) 1 16 Tryd.underlying26 hi hz hsz hby rfl (by omega) v L.length (strV L) hs hB ⟨g, 0, none⟩ 1 1 [.string c] hx rfl ?_ ?_ (by omega) (by unfold maxLen; omega) (by omega) hBs w.heap.size rfl ?_
  · intro j u' hj
    match j, hj with
    | 0, hj => simp at hj; subst hj; rw [head_add25]; exact hc
  · intro u' hu'
    simp at hu'
    subst hu'
    rfl
  · intro g' cap' w' k1 k2 k3 k4
    refine hK _ _ _ w' rfl ?_ ?_
    · unfold Hid Strs
      have e : strV (L ++ [c]) = strV L ++ [.string c] := by simp [strV]
      rw [e, List.length_append, List.length_singleton]
      exact k1
    · refine ⟨k2.os, k2.tape, k2.output, k2.size, fun k hk => k2.block k (by omega) (fun e => ?_)⟩
      obtain ⟨_, ⟨q, _⟩ | ⟨g1, cap1, cur, q, q3, _⟩⟩ := hB
      · rw [q] at e; cases e
      · rw [q] at e
        obtain rfl : k = g1 := by simpa [Value.ownBlock] using e
        omega
end Go.Proofs.YtdfnehngffajiaaDoor
