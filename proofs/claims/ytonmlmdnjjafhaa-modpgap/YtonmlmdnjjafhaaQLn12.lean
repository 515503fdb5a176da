/-
  Ln12: the lines of a sheet, each an array of its own.
-/
import Derived.Test.YtonmlmdnjjafhaaQRs12
import Derived.Test.YtonmlmdnjjafhaaQCat9
import Derived.Laws.OwnMore
import Derived.Deep.AppendLies
namespace Go.Proofs.Ytonmlmdnjjafhaa
open Go.RowKit
set_option linter.unusedVariables false

abbrev rowv (c g : Nat) : Value := .slice (some ⟨g, 0, none⟩) c c
/-- Each once. -/
def Ones (gs : List Nat) : Prop := ∀ (i j g : Nat), gs[i]? = some g → gs[j]? = some g → i = j
/-- The list lv of lines, arrays gs of c words each, in memory from block B on. -/
def Lns (B : Nat) (w : World) (lv : Value) (c : Nat) (gs : List Nat) (m : List (List Int)) : Prop :=
  w.ownsRow B 33 1 lv gs.length (gs.map (rowv c)) ∧ Ones gs ∧ gs.length = m.length ∧ (∀ g ∈ gs, B ≤ g) ∧ WidE c m ∧
    ∀ (j g : Nat), gs[j]? = some g → Row w g (ws (rowE m j))
theorem Lns.nil (B : Nat) (w : World) (c : Nat) : Lns B w (.slice none 0 0) c [] [] :=
  ⟨World.ownsRow_nil _ _ _ _, fun i j g h => by simp at h, rfl, fun g h => by simp at h, fun l h => by simp at h, fun j g h => by simp at h⟩
/-- Blocks that are no lines and no list of lines. -/
theorem Lns.keep {B c : Nat} {w w' : World} {lv : Value} {gs : List Nat} {m : List (List Int)} (h : Lns B w lv c gs m) (hk : ∀ b, b < w.heap.size → (lv.ownBlock = some b ∨ b ∈ gs) → w'.heap[b]? = w.heap[b]?) : Lns B w' lv c gs m := by
  obtain ⟨h1, h2, h3, h4, h5, h6⟩ := h
  refine ⟨owns_keep h1 (fun b hb hlt => hk b hlt (.inl hb)), h2, h3, h4, h5, fun j g hg => ?_⟩
  have := h6 j g hg
  exact (hk g this.lt (.inr (List.mem_of_getElem? hg))).trans this
theorem Lns.now {B c : Nat} {w w' : World} {lv : Value} {gs : List Nat} {m : List (List Int)} (h : Lns B w lv c gs m) (hb : Below w.heap.size w w') : Lns B w' lv c gs m := h.keep fun b hlt _ => hb.block b hlt
theorem Lns.form {B c : Nat} {w : World} {lv : Value} {gs : List Nat} {m : List (List Int)} (h : Lns B w lv c gs m) : ∃ a cap, lv = .slice a m.length cap ∧ m.length ≤ cap ∧ (0 < m.length → ∃ L, a = some ⟨L, 0, none⟩ ∧ B ≤ L ∧ L < w.heap.size) := by
  obtain ⟨⟨q1, ⟨q2, q3⟩ | ⟨g, cap, cur, q2, q3, q4, q5, q6⟩⟩, h2, h3, h4, h5, h6⟩ := h
  · exact ⟨none, 0, by rw [q2, ← h3, q3], by omega, fun q => by omega⟩
  · exact ⟨_, cap, by rw [q2, ← h3], by omega, fun _ => ⟨g, rfl, q3, (Array.getElem?_eq_some_iff.1 q4).1⟩⟩
theorem Lns.blk {B c : Nat} {w : World} {lv : Value} {gs : List Nat} {m : List (List Int)} (h : Lns B w lv c gs m) {i : Nat} (hi : i < m.length) : ∃ g, gs[i]? = some g ∧ B ≤ g ∧ Row w g (ws (rowE m i)) ∧ (rowE m i).length = c := by
  obtain ⟨h1, h2, h3, h4, h5, h6⟩ := h
  have hg : gs[i]? = some (gs[i]'(by omega)) := List.getElem?_eq_getElem (by omega)
  exact ⟨_, hg, h4 _ (List.getElem_mem _), h6 i _ hg, h5.at hi⟩
theorem Lns.line {B c L cap n : Nat} {w : World} {gs : List Nat} {m : List (List Int)} (h : Lns B w (.slice (some ⟨L, 0, none⟩) n cap) c gs m) {i g : Nat} (hg : gs[i]? = some g) : w.cell? ⟨L, i, none⟩ = some (rowv c g) ∧ w.frozen? ⟨L, i, none⟩ = false := by
  obtain ⟨h1, h2, h3, h4, h5, h6⟩ := h
  have hi : i < gs.length := (List.getElem?_eq_some_iff.1 hg).1
  have hn : n = gs.length := by
    obtain ⟨q1, ⟨q2, q3⟩ | ⟨g, cap, cur, q2, q3, q4, q5, q6⟩⟩ := h1
    · cases q2
    · simp only [Value.slice.injEq] at q2; exact q2.2.1
  subst hn
  refine ⟨?_, h1.frozenAt i⟩
  rw [h1.cellAt i (by omega)]
  simp [hg]
/-- The list of lines is no line. -/
theorem Lns.apart {B c : Nat} {w : World} {lv : Value} {gs : List Nat} {m : List (List Int)} (h : Lns B w lv c gs m) {L g : Nat} (hL : lv.ownBlock = some L) (hg : g ∈ gs) : L ≠ g := by
  intro e
  subst e
  obtain ⟨h1, h2, h3, h4, h5, h6⟩ := h
  obtain ⟨j, hj, e⟩ := List.mem_iff_getElem.1 hg
  have hr := h6 j L (by rw [← e]; exact List.getElem?_eq_getElem hj)
  obtain ⟨q1, ⟨q2, q3⟩ | ⟨g, cap, cur, q2, q3, q4, q5, q6⟩⟩ := h1
  · rw [q2] at hL; cases hL
  · rw [q2] at hL
    simp only [Value.ownBlock, Option.some.injEq] at hL
    subst hL
    have := q4.symm.trans (show w.heap[_]? = _ from hr)
    simp at this
/-- A line has turned. -/
theorem Lns.put {B c : Nat} {w w' : World} {lv : Value} {gs : List Nat} {m : List (List Int)} (h : Lns B w lv c gs m) {i g : Nat} (hg : gs[i]? = some g) {ys : List Int} (hl : ys.length = c) (hr : Row w' g (ws ys)) (ht : Touch (· = g) w w') : Lns B w' lv c gs (m.set i ys) := by
  have h0 := h
  obtain ⟨h1, h2, h3, h4, h5, h6⟩ := h
  have hi : i < gs.length := (List.getElem?_eq_some_iff.1 hg).1
  refine ⟨owns_keep h1 (fun b hb hlt => ht.block b hlt (h0.apart hb (List.mem_of_getElem? hg))), h2, by simpa using h3, h4, h5.set hl, fun j g' hg' => ?_⟩
  rw [rowE_set (by omega)]
  by_cases e : i = j
  · subst e
    rw [hg, Option.some.injEq] at hg'
    subst hg'
    rw [if_pos rfl]
    exact hr
  · rw [if_neg e]
    refine ht.row (h6 j g' hg') fun q => ?_
    have q' : g' = g := q
    subst q'
    exact e (h2 i j g' hg hg')
/-- Two lines change places. -/
theorem Lns.swap {B c L cap : Nat} {w : World} {gs : List Nat} {m : List (List Int)} (h : Lns B w (.slice (some ⟨L, 0, none⟩) m.length cap) c gs m) {i j a b : Nat} (ha : gs[i]? = some a) (hb : gs[j]? = some b) :
    Lns B ((w.setCell ⟨L, i, none⟩ (rowv c b)).setCell ⟨L, j, none⟩ (rowv c a)) (.slice (some ⟨L, 0, none⟩) m.length cap) c ((gs.set i b).set j a) (swE m i j) ∧ Touch (· = L) w ((w.setCell ⟨L, i, none⟩ (rowv c b)).setCell ⟨L, j, none⟩ (rowv c a)) := by
  have h0 := h
  obtain ⟨h1, h2, h3, h4, h5, h6⟩ := h
  have hi : i < gs.length := (List.getElem?_eq_some_iff.1 ha).1
  have hj : j < gs.length := (List.getElem?_eq_some_iff.1 hb).1
  rw [← h3] at h1 ⊢
  obtain ⟨o1, g1⟩ := h1.stored i (rowv c b)
  obtain ⟨o2, g2⟩ := o1.stored j (rowv c a)
  have ht : Touch (· = L) w ((w.setCell ⟨L, i, none⟩ (rowv c b)).setCell ⟨L, j, none⟩ (rowv c a)) := ((Touch.refl (· = L) w).setCell (g := L) (.inr rfl) _ _).setCell (g := L) (.inr rfl) _ _
  refine ⟨⟨?_, ?_, by simp [swE, h3], ?_, swE_wide h5 (by omega) (by omega), ?_⟩, ht⟩
  · rw [List.length_set, List.length_set, List.map_set, List.map_set]
    exact o2
  · have key : ∀ s, s < gs.length → ((gs.set i b).set j a)[s]? = gs[if s = j then i else if s = i then j else s]? := fun s hs => by
      by_cases p : s = j
      · subst p; rw [if_pos rfl, List.getElem?_set_self (by simpa using hj), ha]
      · rw [if_neg p, List.getElem?_set_ne (by omega)]
        by_cases p2 : s = i
        · subst p2; rw [if_pos rfl, List.getElem?_set_self hi, hb]
        · rw [if_neg p2, List.getElem?_set_ne (by omega)]
    intro s t g hs ht
    have s1 : s < gs.length := by simpa using (List.getElem?_eq_some_iff.1 hs).1
    have t1 : t < gs.length := by simpa using (List.getElem?_eq_some_iff.1 ht).1
    rw [key s s1] at hs
    rw [key t t1] at ht
    have := h2 _ _ _ hs ht
    split at this <;> split at this <;> (try split at this) <;> (try split at this) <;> omega
  · intro g hg
    rcases List.mem_or_eq_of_mem_set hg with q | rfl
    · rcases List.mem_or_eq_of_mem_set q with q | rfl
      · exact h4 g q
      · exact h4 _ (List.mem_of_getElem? hb)
    · exact h4 _ (List.mem_of_getElem? ha)
  · have keep : ∀ (t g : Nat), gs[t]? = some g → Row ((w.setCell ⟨L, i, none⟩ (rowv c b)).setCell ⟨L, j, none⟩ (rowv c a)) g (ws (rowE m t)) := fun t g hg =>
      ht.row (h6 t g hg) fun q => h0.apart (L := L) rfl (List.mem_of_getElem? hg) (show g = L from q).symm
    intro t g hg
    unfold swE
    rw [rowE_set (by simp; omega)]
    by_cases p : j = t
    · subst p
      rw [List.getElem?_set_self (by simpa using hj), Option.some.injEq] at hg
      subst hg
      rw [if_pos rfl]
      exact keep i _ ha
    · rw [List.getElem?_set_ne (by omega)] at hg
      rw [if_neg p, rowE_set (by omega)]
      by_cases p2 : i = t
      · subst p2
        rw [List.getElem?_set_self hi, Option.some.injEq] at hg
        subst hg
        rw [if_pos rfl]
        exact keep j _ hb
      · rw [List.getElem?_set_ne (by omega)] at hg
        rw [if_neg p2]
        exact keep t _ hg
theorem Try.infoLs12 : (Try.prog.info? 33).map (fun i => (i.zero, i.size, i.bytes)) = some (some (.slice none 0 0), 1, 24) := by kernel_rfl
theorem head_add12 (g j : Nat) : (⟨g, 0, none⟩ : Addr).add j = ⟨g, j, none⟩ := by unfold Addr.add; split <;> simp_all
/-- Blocks of other types stay when a list of lines grows. -/
theorem cel_grown {base n : Nat} {w w' : World} {v : Value} {Us : List Value} {e : TypeId} {sz : Nat} {b : Nat} {T : TypeId} {L : List Value} (h : Cel w b T L) (ho : w.ownsRow base e sz v n Us) (hg : w.grownBy w' v.ownBlock) (hT : T ≠ e) : Cel w' b T L := by
  refine (hg.block b h.blk fun q => ?_).trans h
  obtain ⟨_, ⟨q1, _⟩ | ⟨g', cap', cur, q1, _, q4, _⟩⟩ := ho
  · rw [q1] at q; cases q
  · rw [q1] at q
    simp only [Value.ownBlock, Option.some.injEq] at q
    subst q
    have := (show w.heap[_]? = _ from h).symm.trans q4
    simp only [Option.some.injEq, Obj.cells.injEq] at this
    exact hT this.2.1
theorem row_grown {base n : Nat} {w w' : World} {v : Value} {Us : List Value} {e : TypeId} {sz : Nat} {b : Nat} {L : List Value} (h : Row w b L) (ho : w.ownsRow base e sz v n Us) (hg : w.grownBy w' v.ownBlock) (hT : 22 ≠ e) : Row w' b L := cel_grown (T := 22) h ho hg hT
theorem wp_append_lns (w : World) {o : Oper} {a : Act} {K : Act → World → Prop} {Q : Exit → Act → World → Prop}
    (s x : Operand) (hop : o.op = .call { callee := .builtin .append, args := #[s, x], argTypes := #[44, 44] })
    (B c : Nat) (v : Value) (gs : List Nat) (m : List (List Int)) (g : Nat) (xs : List Int) (hs : a.eval s = v) (hB : Lns B w v c gs m) (gx : Nat) (hx : a.eval x = .slice (some ⟨gx, 0, none⟩) 1 1) (hc : w.cell? ⟨gx, 0, none⟩ = some (rowv c g)) (hr : Row w g (ws xs)) (hl : xs.length = c) (hg : ∀ b ∈ gs, b < g) (hBg : B ≤ g) (hlen : m.length ≤ 1000000000) (hBs : B ≤ w.heap.size)
    (hK : ∀ a' cap' w', Hid (Lns B w' (.slice (some ⟨a', 0, none⟩) (m.length + 1) cap') c (gs ++ [g]) (m ++ [xs])) → Hid (∀ (b : Nat) (T : TypeId) (L : List Value), Cel w b T L → T ≠ 33 → Cel w' b T L) → Hid (Below B w w') → K (a.put o.dst (.slice (some ⟨a', 0, none⟩) (m.length + 1) cap')) w') :
    o.wp Try.prog a w K Q := by
  obtain ⟨i, hi, hz, hsz, hby⟩ := info_parts Try.infoLs12
  obtain ⟨h1, h2, h3, h4, h5, h6⟩ := hB
  refine wp_append_lies w s x 44 hop B 33 i (.slice none 0 0) 1 24 Try.underlying44 hi hz hsz hby rfl (by omega) v gs.length (gs.map (rowv c)) hs h1 ⟨gx, 0, none⟩ 1 1 [rowv c g] hx rfl ?_ ?_ (by omega) (by unfold maxLen; omega) (by omega) hBs w.heap.size rfl ?_
  · intro j u' hj
    match j, hj with
    | 0, hj => simp at hj; subst hj; rw [head_add12]; exact hc
  · intro u' hu'
    simp at hu'
    subst hu'
    rfl
  · intro g' cap' w' k1 k2 k3 k4
    rw [h3] at k1 ⊢
    refine hK _ _ w' ⟨?_, ?_, by simp [h3], fun b hb => ?_, fun l hl' => ?_, fun j b hb => ?_⟩ (fun b T L hC hT => cel_grown hC h1 k2 hT) ?_
    · rw [List.length_append, List.length_cons, List.length_nil, h3, List.map_append]
      exact k1
    · intro p q b hp hq
      by_cases e1 : p < gs.length
      · rw [List.getElem?_append_left e1] at hp
        by_cases e2 : q < gs.length
        · rw [List.getElem?_append_left e2] at hq
          exact h2 p q b hp hq
        · rw [List.getElem?_append_right (by omega)] at hq
          have : b = g := by
            rcases Nat.eq_zero_or_pos (q - gs.length) with z | z
            · rw [z] at hq; simpa using hq.symm
            · rw [show q - gs.length = (q - gs.length - 1) + 1 by omega] at hq; simp at hq
          subst this
          have := hg b (List.mem_of_getElem? hp)
          omega
      · have l1 := (List.getElem?_eq_some_iff.1 hp).1
        have l2 := (List.getElem?_eq_some_iff.1 hq).1
        simp at l1 l2
        rw [List.getElem?_append_right (by omega)] at hp
        have : b = g := by
          rw [show p - gs.length = 0 by omega] at hp
          simpa using hp.symm
        subst this
        by_cases e2 : q < gs.length
        · rw [List.getElem?_append_left e2] at hq
          have := hg b (List.mem_of_getElem? hq)
          omega
        · omega
    · rcases List.mem_append.1 hb with q | q
      · exact h4 b q
      · simp at q; omega
    · rcases List.mem_append.1 hl' with q | q
      · exact h5 l q
      · simp at q; rw [q]; exact hl
    · by_cases e1 : j < gs.length
      · rw [List.getElem?_append_left e1] at hb
        have e : rowE (m ++ [xs]) j = rowE m j := by
          unfold rowE
          simp [List.getElem?_append_left (show j < m.length by omega)]
        rw [e]
        exact row_grown (h6 j b hb) h1 k2 (by decide)
      · have l1 := (List.getElem?_eq_some_iff.1 hb).1
        simp at l1
        obtain rfl : j = gs.length := by omega
        rw [List.getElem?_append_right (by omega)] at hb
        simp at hb
        subst hb
        have e : rowE (m ++ [xs]) gs.length = xs := by
          unfold rowE
          rw [h3]
          simp
        rw [e]
        exact row_grown hr h1 k2 (by decide)
    · refine ⟨k2.os, k2.tape, k2.output, k2.size, fun k hk => k2.block k (by omega) (fun e => ?_)⟩
      obtain ⟨_, ⟨q, _⟩ | ⟨g1, cap1, cur, q, q3, _⟩⟩ := h1
      · rw [q] at e; cases e
      · rw [q] at e
        obtain rfl : k = g1 := by simpa [Value.ownBlock] using e
        omega
theorem wpList_append_lns (w : World) {ops : Array Oper} {rest : List Oper} {o : Oper} {a : Act} {Q : Exit → Act → World → Prop}
    (hgd : o.guard = none) (s x : Operand) (hop : o.op = .call { callee := .builtin .append, args := #[s, x], argTypes := #[44, 44] })
    (B c : Nat) (v : Value) (gs : List Nat) (m : List (List Int)) (g : Nat) (xs : List Int) (hs : a.eval s = v) (hB : Lns B w v c gs m) (gx : Nat) (hx : a.eval x = .slice (some ⟨gx, 0, none⟩) 1 1) (hc : w.cell? ⟨gx, 0, none⟩ = some (rowv c g)) (hr : Row w g (ws xs)) (hl : xs.length = c) (hg : ∀ b ∈ gs, b < g) (hBg : B ≤ g) (hlen : m.length ≤ 1000000000) (hBs : B ≤ w.heap.size)
    (hK : ∀ a' cap' w', Hid (Lns B w' (.slice (some ⟨a', 0, none⟩) (m.length + 1) cap') c (gs ++ [g]) (m ++ [xs])) → Hid (∀ (b : Nat) (T : TypeId) (L : List Value), Cel w b T L → T ≠ 33 → Cel w' b T L) → Hid (Below B w w') → wpList Try.prog ops Q rest (a.put o.dst (.slice (some ⟨a', 0, none⟩) (m.length + 1) cap')) w') :
    wpList Try.prog ops Q (o :: rest) a w :=
  wpList_plain hgd fun _ hK' => wp_append_lns w s x hop B c v gs m g xs hs hB gx hx hc hr hl hg hBg hlen hBs fun a' cap' w' h1 h2 h3 => hK' _ _ (hK a' cap' w' h1 h2 h3)
theorem step_append_lns (w : World) {ops : Array Oper} {o : Oper} {a : Act} {K : Act → World → Prop} {Q : Exit → Act → World → Prop} {E : Prop}
    (hgd : o.guard = none) (s x : Operand) (hop : o.op = .call { callee := .builtin .append, args := #[s, x], argTypes := #[44, 44] })
    (B c : Nat) (v : Value) (gs : List Nat) (m : List (List Int)) (g : Nat) (xs : List Int) (hs : a.eval s = v) (hB : Lns B w v c gs m) (gx : Nat) (hx : a.eval x = .slice (some ⟨gx, 0, none⟩) 1 1) (hc : w.cell? ⟨gx, 0, none⟩ = some (rowv c g)) (hr : Row w g (ws xs)) (hl : xs.length = c) (hg : ∀ b ∈ gs, b < g) (hBg : B ≤ g) (hlen : m.length ≤ 1000000000) (hBs : B ≤ w.heap.size)
    (hK : ∀ a' cap' w', Hid (Lns B w' (.slice (some ⟨a', 0, none⟩) (m.length + 1) cap') c (gs ++ [g]) (m ++ [xs])) → Hid (∀ (b : Nat) (T : TypeId) (L : List Value), Cel w b T L → T ≠ 33 → Cel w' b T L) → Hid (Below B w w') → K (a.put o.dst (.slice (some ⟨a', 0, none⟩) (m.length + 1) cap')) w') :
    if Region.wanted o (yielded ops a.tmps) = true then Oper.wp Try.prog o a w K Q else E := by
  have hw : Region.wanted o (yielded ops a.tmps) = true := by simp [Region.wanted, hgd]
  rw [if_pos hw]
  exact wp_append_lns w s x hop B c v gs m g xs hs hB gx hx hc hr hl hg hBg hlen hBs hK
end Go.Proofs.Ytonmlmdnjjafhaa
