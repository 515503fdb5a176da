/-
  Bulk: arguments that are small in bulk.
-/
import Derived.Test.YtfkdjmmhbamkhaaRows
import Derived.Test.YtfkdjmmhbamkhaaOpen
namespace Go.Proofs.Ytfkdjmmhbamkhaa
open Go.ChangeShapes Go.WideShapes Go.ChangeAt Go.RowKit

/-- A slice value as it comes in: nil, or at a place. -/
def Formed (v : Value) : Prop := v = .slice none 0 0 ∨ ∃ ad n c, v = .slice (some ad) n c
theorem bulk_pos {H : Type} (d : DataW H) : 1 ≤ Rows.uptoBulk d := by
  cases d
  case lit l => cases l <;> simp [Rows.uptoBulk]
  all_goals simp [Rows.uptoBulk]
theorem bulk_in {H : Type} {d : DataW H} : ∀ {l : List (DataW H)}, d ∈ l → Rows.uptoBulk d ≤ Rows.uptoBulkAll l
  | [], h => by cases h
  | x :: r, h => by
    simp only [Rows.uptoBulkAll]
    rcases List.mem_cons.1 h with rfl | h'
    · omega
    · have := bulk_in h'; omega
theorem bulk_len {H : Type} : ∀ l : List (DataW H), l.length ≤ Rows.uptoBulkAll l
  | [] => Nat.zero_le _
  | x :: r => by
    have h1 := bulk_pos x
    have h2 := bulk_len r
    simp only [Rows.uptoBulkAll, List.length_cons]
    omega

theorem open_words3 {H : Type} {enc : TypeId × Value → H} {W : World} {fuel : Nat} {v : Value} {x : DataW H × List MemPlace}
    (hf : DataW.trod enc Try.prog W 0 (fun _ => true) true fuel 25 [v] = some x) (hb : Rows.uptoBulk x.1 ≤ 1048576) :
    ∃ xs, Sl W.heap.size W v xs ∧ xs.length + 1 ≤ Rows.uptoBulk x.1 ∧ Formed v := by
  rcases open_ints Try.underlying25 Try.underlying26 Try.cellsW hf with ⟨hcs, _⟩ | ⟨x', len, cap, zs, hcs, _, hl, hm, hz, hx, hcell, hwz⟩
  · simp only [List.cons.injEq, and_true] at hcs
    subst hcs
    exact ⟨[], Sl.nilAt W, bulk_pos _, .inl rfl⟩
  · simp only [List.cons.injEq, and_true] at hcs
    subst hcs
    simp only [if_true] at hz
    rw [hx] at hb ⊢
    simp only [Rows.uptoBulk] at hb ⊢
    have e1 := bulk_len (lits (H := H) .u64 (zs.take len))
    have e2 := bulk_len (lits (H := H) .u64 (zs.drop len))
    simp only [lits, List.length_map, List.length_take, List.length_drop] at e1 e2
    have hlen : (zs.take len).length = len := by simp; omega
    have hzl : zs.length ≤ 1048576 := by simp only [lits] at hb; omega
    refine ⟨zs.take len, ⟨fun y hy => word_of_wf (hwz y (List.mem_of_mem_take hy)), some x', cap, by rw [hlen], by rw [hlen]; exact hl, by omega, ?_⟩, by rw [hlen]; simp only [lits]; omega, .inr ⟨x', len, cap, rfl⟩⟩
    by_cases he : len = 0
    · exact .inl (by simp [he])
    · obtain ⟨b, off, spot⟩ := x'
      have hc := hcell 0 (by omega)
      have hspot : spot = none := by simpa [Addr.add] using World.cell?_spot hc
      subst hspot
      refine .inr ⟨b, off, rfl, ?_, fun j hj => ?_⟩
      · have := World.block_lt_of_cell? W _ hc
        simpa [Addr.add] using this
      · rw [hlen] at hj
        have hcj := hcell j (by omega)
        have e : (⟨b, off, none⟩ : Addr).add j = ⟨b, off + j, none⟩ := by unfold Addr.add; split <;> simp_all
        rw [e] at hcj
        rw [hcj]
        simp [show j < zs.length by omega]

theorem open_words2 {H : Type} {enc : TypeId × Value → H} {W : World} {fuel : Nat} {v : Value} {x : DataW H × List MemPlace}
    (hf : DataW.trod enc Try.prog W 0 (fun _ => true) true fuel 25 [v] = some x) (hb : Rows.uptoBulk x.1 ≤ 1048576) :
    ∃ xs, Sl W.heap.size W v xs ∧ xs.length ≤ 1048576 ∧ Formed v := by
  obtain ⟨xs, h1, h2, h3⟩ := open_words3 hf hb
  exact ⟨xs, h1, by omega, h3⟩
theorem open_words1 {H : Type} {enc : TypeId × Value → H} {W : World} {fuel : Nat} {v : Value} {x : DataW H × List MemPlace}
    (hf : DataW.trod enc Try.prog W 0 (fun _ => true) true fuel 25 [v] = some x) (hb : Rows.uptoBulk x.1 ≤ 1048576) :
    ∃ xs, Sl W.heap.size W v xs ∧ xs.length ≤ 1048576 := by
  obtain ⟨xs, h1, h2, _⟩ := open_words2 hf hb
  exact ⟨xs, h1, h2⟩
theorem open_small {H : Type} {enc : TypeId × Value → H} {W : World} {a : Option Addr} {len cap : Nat} {d : DataW H} {p : List MemPlace}
    (h0 : DataW.Trod enc Try.prog W 0 (fun _ => true) true 25 (.slice a len cap) d p) (hb : Rows.uptoBulk d ≤ 1048576) :
    ∃ xs, Sl W.heap.size W (.slice a len cap) xs ∧ xs.length ≤ 1048576 ∧ Formed (.slice a len cap) := by
  obtain ⟨fuel, hf⟩ := h0
  exact open_words2 (x := (d, p)) hf hb
end Go.Proofs.Ytfkdjmmhbamkhaa
