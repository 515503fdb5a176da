/-
  Ap25: append of one list of texts to another.
-/
import Derived.Test.YtdfnehngffajiaaDoorSt25
import Derived.Laws.OwnMore
import Derived.Tactics
namespace Go.Proofs.YtdfnehngffajiaaDoor
open Go.RowKit
set_option linter.unusedVariables false

theorem run_append_owned_nil25 {P : Program} {w : World} (base : Nat) (t ty e : TypeId) (i : TypeInfo) (size : Nat) (ht : P.underlying t = some (.slice e)) (hi : P.info? e = some i)
    (v : Value) (n : Nat) (xs : List Value) (hown : w.ownsRow base e size v n xs) (ad : Addr) (c : Nat) :
    (Builtin.append_ #[t, t] ty #[v, .slice (some ad) 0 c]).run P w = .ok v w := by
  rcases hown.2 with ⟨rfl, rfl⟩ | ⟨g, cap, cur, rfl, _, _, hnc, _⟩
  · simp [Builtin.append_, run_underlying ht, sizeOf, typeInfo, hi, Builtin.lenOf, Builtin.firstCells, loadCells, loadCellsFrom, Result.andThen]
  · simp [Builtin.append_, run_underlying ht, sizeOf, typeInfo, hi, Builtin.lenOf, Builtin.firstCells, hnc, loadCells, loadCellsFrom, storeCells, Result.andThen]
theorem wpList_append_nil25 {P : Program} {w : World} {ops : Array Oper} {rest : List Oper} {o : Oper} {a : Act} {Q : Exit → Act → World → Prop} (hgd : o.guard = none) (s x : Operand) (t : TypeId)
    (ho : o.op = .call { callee := .builtin .append, args := #[s, x], argTypes := #[t, t] })
    (base : Nat) (e : TypeId) (i : TypeInfo) (size : Nat) (ht : P.underlying t = some (.slice e)) (hi : P.info? e = some i)
    (v : Value) (n : Nat) (xs : List Value) (hs : a.eval s = v) (hown : w.ownsRow base e size v n xs) (ad : Addr) (c : Nat) (hx : a.eval x = .slice (some ad) 0 c)
    (h : wpList P ops Q rest (a.put o.dst v) w) : wpList P ops Q (o :: rest) a w := by
  refine wpList_plain hgd fun K hK => ?_
  have hrun := run_append_owned_nil25 (P := P) (w := w) base t o.type e i size ht hi v n xs hown ad c
  unfold Oper.wp
  simp [execOp, ho, resolve, invoke, builtin, hs, hx, hrun, Result.andThen]
  exact hK _ _ h
theorem wpList_append_none25 {P : Program} {w : World} {ops : Array Oper} {rest : List Oper} {o : Oper} {a : Act} {Q : Exit → Act → World → Prop} (hgd : o.guard = none) (s x : Operand) (t : TypeId)
    (ho : o.op = .call { callee := .builtin .append, args := #[s, x], argTypes := #[t, t] })
    (base : Nat) (e : TypeId) (i : TypeInfo) (size : Nat) (ht : P.underlying t = some (.slice e)) (hi : P.info? e = some i)
    (v : Value) (n : Nat) (xs : List Value) (hs : a.eval s = v) (hown : w.ownsRow base e size v n xs) (hx : a.eval x = .slice none 0 0)
    (h : wpList P ops Q rest (a.put o.dst v) w) : wpList P ops Q (o :: rest) a w := by
  refine wpList_plain hgd fun K hK => ?_
  have hrun := run_append_owned_none (P := P) (w := w) base t o.type e i size ht hi v n xs hown
  unfold Oper.wp
  simp [execOp, ho, resolve, invoke, builtin, hs, hx, hrun, Result.andThen]
  exact hK _ _ h
theorem Strs.own {B : Nat} {w : World} {v : Value} {L : List ByteArray} (h : Strs B w v L) {g : Nat} (e : v.ownBlock = some g) : B ≤ g ∧ g < w.heap.size := by
  obtain ⟨q1, ⟨q2, q3⟩ | ⟨g1, cap, cur, q2, q3, q4, q5⟩⟩ := h
  · rw [q2] at e; cases e
  · rw [q2] at e
    obtain rfl : g1 = g := by simpa [Value.ownBlock] using e
    exact ⟨q3, (Array.getElem?_eq_some_iff.1 q4).1⟩
theorem strs_lit25 {B : Nat} (w : World) (x : ByteArray) (h : B ≤ w.heap.size) : Strs B (w.alloc (.cells #[.string x] 9)) (.slice (some ⟨w.heap.size, 0, none⟩) 1 1) [x] :=
  World.ownsRow_lit (base := B) (size := 1) w #[.string x] 1 h (by unfold maxLen; omega) rfl
/-- append of a list of texts that lies apart. -/
theorem wpList_append_strs25 (w : World) {ops : Array Oper} {rest : List Oper} {o : Oper} {a : Act} {Q : Exit → Act → World → Prop}
    (hgd : o.guard = none) (s x : Operand) (hop : o.op = .call { callee := .builtin .append, args := #[s, x], argTypes := #[26, 26] })
    (B B' : Nat) (v u : Value) (L R : List ByteArray) (hs : a.eval s = v) (hx : a.eval x = u) (hB : Strs B w v L) (hR : Strs B' w u R) (hlen : L.length ≤ 1000000000000) (hlr : R.length ≤ 1000000000000) (hBs : B ≤ w.heap.size)
    (hK : ∀ v' w', Hid (∃ a' cap', v' = .slice a' (L.length + R.length) cap') → Hid (Strs B w' v' (L ++ R)) → Hid (Below B w w') → Hid (∀ k, k < w.heap.size → v.ownBlock ≠ some k → w'.heap[k]? = w.heap[k]?) → wpList Tryd.prog ops Q rest (a.put o.dst v') w') :
    wpList Tryd.prog ops Q (o :: rest) a w := by
  obtain ⟨i, hi, hz, hsz, hby⟩ := info_parts Tryd.infoSt25
  have nil : R = [] → wpList Tryd.prog ops Q rest (a.put o.dst v) w := fun q => by
    subst q
    obtain ⟨a1, c1, e1⟩ := hB.form
    exact hK v w ⟨a1, c1, e1⟩ (by rw [List.append_nil]; exact hB) (Below.refl _ _) (fun _ _ _ => rfl)
  have hR' := hR
  obtain ⟨q1, ⟨q2, q3⟩ | ⟨g, cap, cur, q2, q3, q4, q5, q6, q7, q8⟩⟩ := hR
  · exact wpList_append_none25 hgd s x 26 hop B 9 i 1 Tryd.underlying26 hi v L.length (strV L) hs hB (hx.trans q2) (nil (List.length_eq_zero_iff.1 q3))
  · by_cases h0 : R.length = 0
    · exact wpList_append_nil25 hgd s x 26 hop B 9 i 1 Tryd.underlying26 hi v L.length (strV L) hs hB ⟨g, 0, none⟩ cap (by rw [hx, q2, h0]) (nil (List.length_eq_zero_iff.1 h0))
    · refine wpList_append_lies w hgd s x 26 hop B 9 i (.string ⟨#[]⟩) 1 16 Tryd.underlying26 hi hz hsz hby rfl (by omega) v L.length (strV L) hs hB ⟨g, 0, none⟩ R.length cap (strV R) (hx.trans q2) (by rw [strV_len, Nat.mul_one]) (fun j u hj => World.ownsRow.cells hR' (g := g) (by rw [q2]; rfl) j u hj) (fun u hu => by
        obtain ⟨b, _, e⟩ := List.mem_map.1 hu
        rw [← e]
        rfl) (by omega) (by unfold maxLen; omega) (by omega) hBs w.heap.size rfl ?_
      intro g' cap' w' k1 k2 k3 k4
      refine hK _ w' ⟨_, _, rfl⟩ ?_ ?_ (fun k h1 h2 => k2.block k h1 (fun e => h2 e.symm))
      · unfold Hid Strs
        have e : strV (L ++ R) = strV L ++ strV R := by simp [strV]
        rw [e, List.length_append]
        exact k1
      · refine ⟨k2.os, k2.tape, k2.output, k2.size, fun k hk => k2.block k (by omega) (fun e => ?_)⟩
        obtain ⟨_, ⟨q, _⟩ | ⟨g1, cap1, cur, q, q3, _⟩⟩ := hB
        · rw [q] at e; cases e
        · rw [q] at e
          obtain rfl : k = g1 := by simpa [Value.ownBlock] using e
          omega
end Go.Proofs.YtdfnehngffajiaaDoor
