/-
  Au25: append of one list of tokens to another, in an operation that stands under a guard.
-/
import Derived.Test.YtdfnehngffajiaaAt25
namespace Go.Proofs.Ytdfnehngffajiaa
open Go.RowKit
set_option linter.unusedVariables false

theorem wpList_wanted {P : Program} {w : World} {ops : Array Oper} {rest : List Oper} {o : Oper} {a : Act} {Q : Exit → Act → World → Prop} (hw : Region.wanted o (yielded ops a.tmps) = true)
    (h : ∀ K : Act → World → Prop, (∀ a w, wpList P ops Q rest a w → K a w) → o.wp P a w K Q) : wpList P ops Q (o :: rest) a w :=
  wpList_step fun K hK => by rw [if_pos hw]; exact h K hK
theorem wpList_append_nil25G {P : Program} {w : World} {ops : Array Oper} {rest : List Oper} {o : Oper} {a : Act} {Q : Exit → Act → World → Prop} (hgd : Region.wanted o (yielded ops a.tmps) = true) (s x : Operand) (t : TypeId)
    (ho : o.op = .call { callee := .builtin .append, args := #[s, x], argTypes := #[t, t] })
    (base : Nat) (e : TypeId) (i : TypeInfo) (size : Nat) (ht : P.underlying t = some (.slice e)) (hi : P.info? e = some i)
    (v : Value) (n : Nat) (xs : List Value) (hs : a.eval s = v) (hown : w.ownsRow base e size v n xs) (ad : Addr) (c : Nat) (hx : a.eval x = .slice (some ad) 0 c)
    (h : wpList P ops Q rest (a.put o.dst v) w) : wpList P ops Q (o :: rest) a w := by
  refine wpList_wanted hgd fun K hK => ?_
  have hrun := run_append_owned_nil25 (P := P) (w := w) base t o.type e i size ht hi v n xs hown ad c
  unfold Oper.wp
  simp [execOp, ho, resolve, invoke, builtin, hs, hx, hrun, Result.andThen]
  exact hK _ _ h
theorem wpList_append_none25G {P : Program} {w : World} {ops : Array Oper} {rest : List Oper} {o : Oper} {a : Act} {Q : Exit → Act → World → Prop} (hgd : Region.wanted o (yielded ops a.tmps) = true) (s x : Operand) (t : TypeId)
    (ho : o.op = .call { callee := .builtin .append, args := #[s, x], argTypes := #[t, t] })
    (base : Nat) (e : TypeId) (i : TypeInfo) (size : Nat) (ht : P.underlying t = some (.slice e)) (hi : P.info? e = some i)
    (v : Value) (n : Nat) (xs : List Value) (hs : a.eval s = v) (hown : w.ownsRow base e size v n xs) (hx : a.eval x = .slice none 0 0)
    (h : wpList P ops Q rest (a.put o.dst v) w) : wpList P ops Q (o :: rest) a w := by
  refine wpList_wanted hgd fun K hK => ?_
  have hrun := run_append_owned_none (P := P) (w := w) base t o.type e i size ht hi v n xs hown
  unfold Oper.wp
  simp [execOp, ho, resolve, invoke, builtin, hs, hx, hrun, Result.andThen]
  exact hK _ _ h
/-- append of a list of tokens that lies apart, under a guard. -/
theorem wpList_append_toks25G (w : World) {ops : Array Oper} {rest : List Oper} {o : Oper} {a : Act} {Q : Exit → Act → World → Prop}
    (hgd : Region.wanted o (yielded ops a.tmps) = true) (s x : Operand) (hop : o.op = .call { callee := .builtin .append, args := #[s, x], argTypes := #[25, 25] })
    (B B' : Nat) (v u : Value) (L R : List Tok) (hs : a.eval s = v) (hx : a.eval x = u) (hB : Toks B w v L) (hR : Toks B' w u R) (hlen : L.length ≤ 1000000000000) (hlr : R.length ≤ 1000000000000) (hBs : B ≤ w.heap.size)
    (hK : ∀ v' w', Hid (∃ a' cap', v' = .slice a' (L.length + R.length) cap') → Hid (Toks B w' v' (L ++ R)) → Hid (Below B w w') → Hid (∀ k, k < w.heap.size → v.ownBlock ≠ some k → w'.heap[k]? = w.heap[k]?) → wpList Try.prog ops Q rest (a.put o.dst v') w') :
    wpList Try.prog ops Q (o :: rest) a w := by
  obtain ⟨i, hi, hz, hsz, hby⟩ := info_parts Try.infoTk25
  have nil : R = [] → wpList Try.prog ops Q rest (a.put o.dst v) w := fun q => by
    subst q
    obtain ⟨a1, c1, e1⟩ := hB.form
    exact hK v w ⟨a1, c1, e1⟩ (by rw [List.append_nil]; exact hB) (Below.refl _ _) (fun _ _ _ => rfl)
  have hR' := hR
  obtain ⟨q1, ⟨q2, q3⟩ | ⟨g, cap, cur, q2, q3, q4, q5, q6, q7, q8⟩⟩ := hR
  · exact wpList_append_none25G hgd s x 25 hop B 37 i 3 Try.underlying25 hi v L.length (tokV L) hs hB (hx.trans q2) (nil (List.length_eq_zero_iff.1 q3))
  · by_cases h0 : R.length = 0
    · exact wpList_append_nil25G hgd s x 25 hop B 37 i 3 Try.underlying25 hi v L.length (tokV L) hs hB ⟨g, 0, none⟩ cap (by rw [hx, q2, h0]) (nil (List.length_eq_zero_iff.1 h0))
    · refine wpList_wanted hgd fun K hKK => wp_append_lies w s x 25 hop B 37 i (.agg #[.int .i64 0, .string ⟨#[]⟩, .int .i64 0]) 3 32 Try.underlying25 hi hz hsz hby rfl (by omega) v L.length (tokV L) hs hB ⟨g, 0, none⟩ R.length cap (tokV R) (hx.trans q2) (tokV_len R) (fun j u hj => World.ownsRow.cells hR' (g := g) (by rw [q2]; rfl) j u hj) (tokV_one R) (by omega) (by unfold maxLen; omega) (by omega) hBs w.heap.size rfl ?_
      intro g' cap' w' k1 k2 k3 k4
      refine hKK _ _ (hK _ w' ⟨_, _, rfl⟩ ?_ ?_ (fun k h1 h2 => k2.block k h1 (fun e => h2 e.symm)))
      · unfold Hid Toks
        have e : tokV (L ++ R) = tokV L ++ tokV R := tokV_app L R
        rw [e, List.length_append]
        exact k1
      · refine ⟨k2.os, k2.tape, k2.output, k2.size, fun k hk => k2.block k (by omega) (fun e => ?_)⟩
        obtain ⟨_, ⟨q, _⟩ | ⟨g1, cap1, cur, q, q3, _⟩⟩ := hB
        · rw [q] at e; cases e
        · rw [q] at e
          obtain rfl : k = g1 := by simpa [Value.ownBlock] using e
          omega
end Go.Proofs.Ytdfnehngffajiaa
