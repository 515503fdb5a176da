/-
  At25: append of one list of tokens to another.
-/
import Derived.Test.YtdfnehngffajiaaAp25
import Derived.Test.YtdfnehngffajiaaTk25
namespace Go.Proofs.Ytdfnehngffajiaa
open Go.RowKit
set_option linter.unusedVariables false

theorem Toks.own {B : Nat} {w : World} {v : Value} {L : List Tok} (h : Toks B w v L) {g : Nat} (e : v.ownBlock = some g) : B ≤ g ∧ g < w.heap.size := by
  obtain ⟨q1, ⟨q2, q3⟩ | ⟨g1, cap, cur, q2, q3, q4, q5⟩⟩ := h
  · rw [q2] at e; cases e
  · rw [q2] at e
    obtain rfl : g1 = g := by simpa [Value.ownBlock] using e
    exact ⟨q3, (Array.getElem?_eq_some_iff.1 q4).1⟩
/-- append of a list of tokens that lies apart. -/
theorem wpList_append_toks25 (w : World) {ops : Array Oper} {rest : List Oper} {o : Oper} {a : Act} {Q : Exit → Act → World → Prop}
    (hgd : o.guard = none) (s x : Operand) (hop : o.op = .call { callee := .builtin .append, args := #[s, x], argTypes := #[25, 25] })
    (B B' : Nat) (v u : Value) (L R : List Tok) (hs : a.eval s = v) (hx : a.eval x = u) (hB : Toks B w v L) (hR : Toks B' w u R) (hlen : L.length ≤ 1000000000000) (hlr : R.length ≤ 1000000000000) (hBs : B ≤ w.heap.size)
    (hK : ∀ v' w', Hid (∃ a' cap', v' = .slice a' (L.length + R.length) cap') → Hid (Toks B w' v' (L ++ R)) → Hid (Below B w w') → Hid (∀ k, k < w.heap.size → v.ownBlock ≠ some k → w'.heap[k]? = w.heap[k]?) → wpList Try.prog ops Q rest (a.put o.dst v') w') :
    wpList Try.prog ops Q (o :: rest) a w := by
  obtain ⟨i, hi, hz, hsz, hby⟩ := info_parts Try.infoTk25
  have nil : R = [] → wpList Try.prog ops Q rest (a.put o.dst v) w := fun q => by
    subst q
    obtain ⟨a1, c1, e1⟩ := hB.form
    exact hK v w ⟨a1, c1, e1⟩ (by rw [List.append_nil]; exact hB) (Below.refl _ _) (fun _ _ _ => rfl)
  have hR' := hR
  obtain ⟨q1, ⟨q2, q3⟩ | ⟨g, cap, cur, q2, q3, q4, q5, q6, q7, q8⟩⟩ := hR
  · exact wpList_append_none25 hgd s x 25 hop B 37 i 3 Try.underlying25 hi v L.length (tokV L) hs hB (hx.trans q2) (nil (List.length_eq_zero_iff.1 q3))
  · by_cases h0 : R.length = 0
    · exact wpList_append_nil25 hgd s x 25 hop B 37 i 3 Try.underlying25 hi v L.length (tokV L) hs hB ⟨g, 0, none⟩ cap (by rw [hx, q2, h0]) (nil (List.length_eq_zero_iff.1 h0))
    · refine wpList_append_lies w hgd s x 25 hop B 37 i (.agg #[.int .i64 0, .string ⟨#[]⟩, .int .i64 0]) 3 32 Try.underlying25 hi hz hsz hby rfl (by omega) v L.length (tokV L) hs hB ⟨g, 0, none⟩ R.length cap (tokV R) (hx.trans q2) (tokV_len R) (fun j u hj => World.ownsRow.cells hR' (g := g) (by rw [q2]; rfl) j u hj) (tokV_one R) (by omega) (by unfold maxLen; omega) (by omega) hBs w.heap.size rfl ?_
      intro g' cap' w' k1 k2 k3 k4
      refine hK _ w' ⟨_, _, rfl⟩ ?_ ?_ (fun k h1 h2 => k2.block k h1 (fun e => h2 e.symm))
      · unfold Hid Toks
        have e : tokV (L ++ R) = tokV L ++ tokV R := tokV_app L R
        rw [e, List.length_append]
        exact k1
      · refine ⟨k2.os, k2.tape, k2.output, k2.size, fun k hk => k2.block k (by omega) (fun e => ?_)⟩
        obtain ⟨_, ⟨q, _⟩ | ⟨g1, cap1, cur, q, q3, _⟩⟩ := hB
        · rw [q] at e; cases e
        · rw [q] at e
          obtain rfl : k = g1 := by simpa [Value.ownBlock] using e
          omega
end Go.Proofs.Ytdfnehngffajiaa
