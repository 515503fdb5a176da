/-
  QTk25ToTx25: Tk25, Tx25, joined.
-/
import Derived.Test.YtdfnehngffajiabDoorQBaseToSt25
import Derived.Deep.LoopGhost

/- Tk25 -/
namespace Go.Proofs.YtdfnehngffajiabDoor
open Go.RowKit
set_option linter.unusedVariables false

theorem Tryd.infoTk25 : (Tryd.prog.info? 30).map (fun i => (i.zero, i.size, i.bytes)) = some (some (.agg #[.int .i64 0, .string ⟨#[]⟩, .int .i64 0]), 3, 32) := by kernel_rfl
structure Tok where
  k : Int
  x : ByteArray
  c : Int
def tokV : List Tok → List Value
  | [] => []
  | t :: r => .int .i64 t.k :: .string t.x :: .int .i64 t.c :: tokV r
theorem tokV_len : ∀ L : List Tok, (tokV L).length = L.length * 3
  | [] => rfl
  | t :: r => by simp only [tokV, List.length_cons, tokV_len r]; omega
theorem tokV_app : ∀ L M : List Tok, tokV (L ++ M) = tokV L ++ tokV M
  | [], M => rfl
  | t :: r, M => by simp only [tokV, List.cons_append, tokV_app r M]
theorem tokV_at : ∀ (L : List Tok) (j : Nat) (h : j < L.length), (tokV L)[j * 3]? = some (.int .i64 L[j].k) ∧ (tokV L)[j * 3 + 1]? = some (.string L[j].x) ∧ (tokV L)[j * 3 + 2]? = some (.int .i64 L[j].c)
  | t :: r, 0, h => ⟨rfl, rfl, rfl⟩
  | t :: r, j + 1, h => by
    have ih := tokV_at r j (by simpa using h)
    have e0 : (j + 1) * 3 = j * 3 + 1 + 1 + 1 := by omega
    rw [e0]
    exact ih
theorem tokV_one : ∀ L : List Tok, ∀ u ∈ tokV L, u.oneCell' = true
  | [], u, h => by cases h
  | t :: r, u, h => by
    simp only [tokV, List.mem_cons] at h
    rcases h with rfl | rfl | rfl | h
    · rfl
    · rfl
    · rfl
    · exact tokV_one r u h
/-- The slice value v gathers the tokens L; its row lies from block B on. -/
def Toks (B : Nat) (w : World) (v : Value) (L : List Tok) : Prop := w.ownsRow B 30 3 v L.length (tokV L)
theorem Toks.nil (B : Nat) (w : World) : Toks B w (.slice none 0 0) [] := World.ownsRow_nil _ _ _ _
theorem Toks.keep {B : Nat} {w w' : World} {v : Value} {L : List Tok} (h : Toks B w v L) (hb : ∀ g, B ≤ g → g < w.heap.size → w'.heap[g]? = w.heap[g]?) : Toks B w' v L := by
  obtain ⟨q1, q2 | ⟨g, cap, cur, q2, q3, q4, q5⟩⟩ := h
  · exact ⟨q1, .inl q2⟩
  · exact ⟨q1, .inr ⟨g, cap, cur, q2, q3, (hb g q3 (Array.getElem?_eq_some_iff.1 q4).1).trans q4, q5⟩⟩
theorem Toks.now {B : Nat} {w w' : World} {v : Value} {L : List Tok} (h : Toks B w v L) (hb : Below w.heap.size w w') : Toks B w' v L := h.keep fun g _ hg => hb.block g hg
theorem Toks.form {B : Nat} {w : World} {v : Value} {L : List Tok} (h : Toks B w v L) : ∃ a cap, v = .slice a L.length cap := by
  obtain ⟨q1, ⟨q2, q3⟩ | ⟨g, cap, cur, q2, _⟩⟩ := h
  · exact ⟨none, 0, by rw [q2, q3]⟩
  · exact ⟨_, cap, q2⟩
theorem Toks.at {B : Nat} {w : World} {a : Option Addr} {n cap : Nat} {L : List Tok} (h : Toks B w (.slice a n cap) L) {j : Nat} (hj : j < L.length) : ∃ g, a = some ⟨g, 0, none⟩ ∧ B ≤ g ∧ w.cell? ⟨g, j * 3, none⟩ = some (.int .i64 L[j].k) ∧ w.cell? ⟨g, j * 3 + 1, none⟩ = some (.string L[j].x) ∧ w.cell? ⟨g, j * 3 + 2, none⟩ = some (.int .i64 L[j].c) := by
  have h' := h
  obtain ⟨e1, e2, e3⟩ := tokV_at L j hj
  obtain ⟨q1, ⟨q2, q3⟩ | ⟨g, cap', cur, q2, q3, q4, q5⟩⟩ := h
  · omega
  · simp only [Value.slice.injEq] at q2
    obtain ⟨rfl, rfl, rfl⟩ := q2
    have c1 := World.ownsRow.cells h' (g := g) rfl _ _ e1
    have c2 := World.ownsRow.cells h' (g := g) rfl _ _ e2
    have c3 := World.ownsRow.cells h' (g := g) rfl _ _ e3
    rw [head_add25] at c1 c2 c3
    exact ⟨g, rfl, q3, c1, c2, c3⟩
theorem wpList_append_tok25 (w : World) {ops : Array Oper} {rest : List Oper} {o : Oper} {a : Act} {Q : Exit → Act → World → Prop}
    (hgd : o.guard = none) (s x : Operand) (hop : o.op = .call { callee := .builtin .append, args := #[s, x], argTypes := #[23, 23] })
    (B : Nat) (v : Value) (L : List Tok) (t : Tok) (hs : a.eval s = v) (hB : Toks B w v L) (g : Nat) (hx : a.eval x = .slice (some ⟨g, 0, none⟩) 1 1) (hc0 : w.cell? ⟨g, 0, none⟩ = some (.int .i64 t.k)) (hc1 : w.cell? ⟨g, 1, none⟩ = some (.string t.x)) (hc2 : w.cell? ⟨g, 2, none⟩ = some (.int .i64 t.c)) (hlen : L.length ≤ 1000000000000) (hBs : B ≤ w.heap.size)
    (hK : ∀ m a' cap' w', Hid (m = L.length + 1) → Hid (Toks B w' (.slice a' m cap') (L ++ [t])) → Hid (Below B w w') → wpList Tryd.prog ops Q rest (a.put o.dst (.slice a' m cap')) w') :
    wpList Tryd.prog ops Q (o :: rest) a w := by
  obtain ⟨i, hi, hz, hsz, hby⟩ := info_parts Tryd.infoTk25
  refine wpList_append_lies w hgd s x 23 hop B 30 i (.agg #[.int .i64 0, .string ⟨#[]⟩, .int .i64 0]) 3 32 Tryd.underlying23 hi hz hsz hby rfl (by omega) v L.length (tokV L) hs hB ⟨g, 0, none⟩ 1 1 (tokV [t]) hx rfl ?_ (tokV_one [t]) (by omega) (by unfold maxLen; omega) (by omega) hBs w.heap.size rfl ?_
  · intro j u' hj
    match j, hj with
    | 0, hj => simp [tokV] at hj; subst hj; rw [head_add25]; exact hc0
    | 1, hj => simp [tokV] at hj; subst hj; rw [head_add25]; exact hc1
    | 2, hj => simp [tokV] at hj; subst hj; rw [head_add25]; exact hc2
  · intro g' cap' w' k1 k2 k3 k4
    refine hK _ _ _ w' rfl ?_ ?_
    · unfold Hid Toks
      rw [tokV_app, List.length_append, List.length_singleton]
      exact k1
    · refine ⟨k2.os, k2.tape, k2.output, k2.size, fun k hk => k2.block k (by omega) (fun e => ?_)⟩
      obtain ⟨_, ⟨q, _⟩ | ⟨g1, cap1, cur, q, q3, _⟩⟩ := hB
      · rw [q] at e; cases e
      · rw [q] at e
        obtain rfl : k = g1 := by simpa [Value.ownBlock] using e
        omega
end Go.Proofs.YtdfnehngffajiabDoor

/- Tx25 -/
namespace Go.Proofs.YtdfnehngffajiabDoor
open Go.RowKit
set_option linter.unusedVariables false

set_option maxHeartbeats 1600000 in
set_option maxRecDepth 100000 in
theorem tokens25 {B B' : Nat} {w : World} {va vb : Value} {L : List Tok} (ha : Toks B w va L) (hb : Toks B' w vb L) (hl : L.length ≤ 1000000000000) :
    Calls Tryd.prog 11 #[va, vb] w fun e w' => e = .returned (.bool true) ∧ ∃ n, w' = w.drewN n := by
  obtain ⟨a, cap, rfl⟩ := ha.form
  obtain ⟨a', cap', rfl⟩ := hb.form
  have HA := hid ha
  have HB := hid hb
  clear ha hb
  obtain ⟨n, hn⟩ : ∃ n, L.length = n := ⟨_, rfl⟩
  rw [hn] at HA HB hl ⊢
  have HN := hid hn
  clear hn
  have hne : ((n : Int) != (n : Int)) = false := by simp
  go_enter Tryd.func11, Tryd.ntmps11
  go_wp2
  go_loopg [5] n (fun gk s5 wr => ∃ k q : Nat, k ≤ n ∧ s5 = .int .i64 (k : Int) ∧ gk = n - k ∧ wr = w.drewN q)
  case atStart => exact ⟨0, 0, Nat.zero_le _, rfl, rfl, rfl⟩
  case round =>
    obtain ⟨k, q, hk, rfl, hgk, rfl⟩ := hrel
    have HGK := hid hgk
    clear hgk
    by_cases hlt : k < n
    · have hk1 : k < L.length := by have := HN.out; omega
      have hlt' : (k : Int) < (n : Int) := by omega
      have gi : IntKind.i64.wrap ((k : Int) + 1) = ((k + 1 : Nat) : Int) := by rw [wrap_is] <;> omega
      obtain ⟨g, rfl, _, hg0, hg1, hg2⟩ := HA.out.at hk1
      obtain ⟨g', rfl, _, hg0', hg1', hg2'⟩ := HB.out.at hk1
      obtain ⟨⟨xk, xx, xc⟩, hx⟩ : ∃ x, L[k] = x := ⟨_, rfl⟩
      rw [hx] at hg0 hg1 hg2 hg0' hg1' hg2'
      dsimp only at hg0 hg1 hg2 hg0' hg1' hg2'
      have ht : (xx.toList == xx.toList) = true := by simp
      have hti : (xk == xk) = true := by simp
      have htc : (xc == xc) = true := by simp
      have c1 : ∀ q, (w.drewN q).cell? ⟨g, k * 3, none⟩ = some (.int .i64 xk) := fun q => by simpa using hg0
      have c2 : ∀ q, (w.drewN q).cell? ⟨g, k * 3 + 1, none⟩ = some (.string xx) := fun q => by simpa using hg1
      have c3 : ∀ q, (w.drewN q).cell? ⟨g, k * 3 + 2, none⟩ = some (.int .i64 xc) := fun q => by simpa using hg2
      have d1 : ∀ q, (w.drewN q).cell? ⟨g', k * 3, none⟩ = some (.int .i64 xk) := fun q => by simpa using hg0'
      have d2 : ∀ q, (w.drewN q).cell? ⟨g', k * 3 + 1, none⟩ = some (.string xx) := fun q => by simpa using hg1'
      have d3 : ∀ q, (w.drewN q).cell? ⟨g', k * 3 + 2, none⟩ = some (.int .i64 xc) := fun q => by simpa using hg2'
      clear hg0 hg1 hg2 hg0' hg1' hg2' hx HA HB
      go_wp2
      go_quiet (fail)
      go_wp2
      go_roundg (n - (k + 1))
      case rel => exact ⟨k + 1, _, by omega, by first | rfl | go_num, rfl, rfl⟩
      case measure => have := HGK.out; omega
    · have hlt' : ¬ (k : Int) < (n : Int) := by omega
      go_wp2
      go_ret
      exact ⟨rfl, q, rfl⟩
end Go.Proofs.YtdfnehngffajiabDoor
