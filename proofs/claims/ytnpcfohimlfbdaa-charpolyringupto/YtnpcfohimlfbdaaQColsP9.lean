/-
  ColsP9: columns that grow side by side.
-/
import Derived.Test.YtnpcfohimlfbdaaQEach9ToDotsA9
namespace Go.Proofs.Ytnpcfohimlfbdaa
open Go.RowKit
set_option linter.unusedVariables false

theorem step_append_pair (w : World) {ops : Array Oper} {o : Oper} {a : Act} {K : Act → World → Prop} {Q : Exit → Act → World → Prop} {E : Prop}
    (hgd : o.guard = none) (s x : Operand) (hop : o.op = .call { callee := .builtin .append, args := #[s, x], argTypes := #[22, 22] })
    (B : Nat) (v : Value) (ps : List (Value × Value)) (hs : a.eval s = v) (hB : OwnP B w v ps) (g : Nat) (x0 x1 : Value) (hx : a.eval x = .slice (some ⟨g, 0, none⟩) 1 1) (hc0 : w.cell? ⟨g, 0, none⟩ = some x0) (hc1 : w.cell? ⟨g, 1, none⟩ = some x1) (hi : IsI (x0, x1)) (hlen : ps.length ≤ 1048576) (hBs : B ≤ w.heap.size)
    (hK : ∀ g' l' cap' w', l' = ps.length + 1 → Hid (OwnP B w' (.slice (some ⟨g', 0, none⟩) l' cap') (ps ++ [(x0, x1)])) → Hid (w.grownBy w' v.ownBlock) → Hid (v.ownBlock = some g' ∨ g' = w.heap.size) → K (a.put o.dst (.slice (some ⟨g', 0, none⟩) l' cap')) w') :
    if Region.wanted o (yielded ops a.tmps) = true then Oper.wp Try.prog o a w K Q else E := by
  obtain ⟨i, hii, hz, hsz, hby⟩ := info_parts Try.infoZ9
  have ea : ∀ j, (⟨g, 0, none⟩ : Addr).add j = ⟨g, j, none⟩ := fun j => by unfold Addr.add; split <;> simp_all
  refine step_append_lies w hgd s x 22 hop B 25 i (.agg #[.bool false, .slice none 0 0]) 2 32 Try.underlying22 hii hz hsz hby rfl (by omega) v ps.length (flat ps) hs hB ⟨g, 0, none⟩ 1 1 [x0, x1] hx rfl ?_ ?_ (by omega) (by unfold maxLen; omega) (by omega) hBs w.heap.size rfl ?_
  · intro j u' hj
    match j, hj with
    | 0, hj => simp at hj; subst hj; rw [ea]; exact hc0
    | 1, hj => simp at hj; subst hj; rw [ea]; exact hc1
  · obtain ⟨n, b, l, c, e⟩ := hi
    simp only [Prod.mk.injEq] at e
    obtain ⟨rfl, rfl⟩ := e
    intro u' hu'
    simp at hu'
    rcases hu' with rfl | rfl <;> rfl
  · intro g' cap' w' k1 k2 k3 k4
    refine hK g' _ cap' w' rfl ?_ k2 k3
    unfold Hid OwnP
    rw [flat_append, List.length_append]
    exact k1
/-- How long column jj is when i rows are through, and j places of the next. -/
def clen (i j jj : Nat) : Nat := if jj < j then i + 1 else i
def colL {α : Type} (c : Nat) (ps : List α) (z : α) (n j : Nat) : List α := (List.range n).map fun t => ps.getD (t * c + j) z
/-- All that lay below N, but for the block g, is as it was. -/
structure Kp (N g : Nat) (w wx : World) : Prop where
  os : wx.os = w.os
  tape : wx.tape = w.tape
  output : wx.output = w.output
  size : w.heap.size ≤ wx.heap.size
  block : ∀ b, b < N → b ≠ g → wx.heap[b]? = w.heap[b]?
theorem Kp.refl (N g : Nat) (w : World) : Kp N g w w := ⟨rfl, rfl, rfl, Nat.le_refl _, fun _ _ _ => rfl⟩
theorem Kp.step {g : Nat} {w wx wy : World} (h : Kp w.heap.size g w wx) (hb : Below wx.heap.size wx wy) : Kp w.heap.size g w wy :=
  ⟨hb.os.trans h.os, hb.tape.trans h.tape, hb.output.trans h.output, Nat.le_trans h.size hb.size, fun b hlt hne => (hb.block b (Nat.lt_of_lt_of_le hlt h.size)).trans (h.block b hlt hne)⟩
theorem Kp.below {g : Nat} {w0 w wx : World} (h : Kp w.heap.size g w wx) (hb : Below w0.heap.size w0 w) (hg : w0.heap.size ≤ g) : Below w0.heap.size w0 wx :=
  ⟨h.os.trans hb.os, h.tape.trans hb.tape, h.output.trans hb.output, Nat.le_trans hb.size h.size, fun b hlt => (h.block b (Nat.lt_of_lt_of_le hlt hb.size) (by omega)).trans (hb.block b hlt)⟩
theorem Kp.cell {g b i : Nat} {w wx : World} {v : Value} (h : Kp w.heap.size g w wx) (hb : b ≠ g) (hc : w.cell? ⟨b, i, none⟩ = some v) : wx.cell? ⟨b, i, none⟩ = some v :=
  (World.cell?_of_block (h.block b (World.block_lt_of_cell? w _ hc) hb)).trans hc
structure ColsI (w wx : World) (g c i j : Nat) (ps : List (Value × Value)) (vs : List Value) : Prop where
  row : RowL9 wx g vs
  len : vs.length = c
  own : ∀ (jj : Nat) (u : Value), vs[jj]? = some u → OwnP w.heap.size wx u (colL c ps zpair (clen i j jj) jj)
  apart : ∀ (jj kk : Nat) (u u' : Value) (b : Nat), vs[jj]? = some u → vs[kk]? = some u' → jj ≠ kk → u.ownBlock = some b → u'.ownBlock ≠ some b
  off : ∀ (jj : Nat) (u : Value), vs[jj]? = some u → u.ownBlock ≠ some g
  kp : Kp w.heap.size g w wx
theorem OwnP.keep {B : Nat} {w w' : World} {v : Value} {ps : List (Value × Value)} (h : OwnP B w v ps) (hk : ∀ b, v.ownBlock = some b → b < w.heap.size → w'.heap[b]? = w.heap[b]?) : OwnP B w' v ps := owns_keep h hk
theorem ColsI.step {w wx wy : World} {g c i j : Nat} {ps : List (Value × Value)} {vs : List Value} (h : ColsI w wx g c i j ps vs) (hb : Below wx.heap.size wx wy) : ColsI w wy g c i j ps vs :=
  ⟨h.row.step hb, h.len, fun jj u hu => (h.own jj u hu).keep (fun b _ hlt => hb.block b hlt), h.apart, h.off, h.kp.step hb⟩
theorem colL_succ {α : Type} {c : Nat} {ps : List α} {z : α} {n j : Nat} : colL c ps z (n + 1) j = colL c ps z n j ++ [ps.getD (n * c + j) z] := by simp [colL, List.range_succ]
theorem colL_length {α : Type} {c : Nat} {ps : List α} {z : α} {n j : Nat} : (colL c ps z n j).length = n := by simp [colL]
/-- One place more. -/
theorem ColsI.next {w wx wy : World} {g c i j l' g' cap' : Nat} {ps : List (Value × Value)} {vs : List Value} {u : Value} (h : ColsI w wx g c i j ps vs) (hj : j < c) (hu : vs[j]? = some u)
    (ho : OwnP w.heap.size wy (.slice (some ⟨g', 0, none⟩) l' cap') (colL c ps zpair i j ++ [ps.getD (i * c + j) zpair])) (hg : wx.grownBy wy u.ownBlock) (hw : u.ownBlock = some g' ∨ g' = wx.heap.size) :
    ColsI w (wy.setCell ⟨g, j, none⟩ (.slice (some ⟨g', 0, none⟩) l' cap')) g c i (j + 1) ps (vs.set j (.slice (some ⟨g', 0, none⟩) l' cap')) := by
  have hgb : g < wx.heap.size := h.row.blk
  have hgg : g' ≠ g := by
    rcases hw with q | q
    · intro e
      subst e
      exact h.off j u hu q
    · omega
  have hset : ∀ b, b ≠ g → (wy.setCell ⟨g, j, none⟩ (.slice (some ⟨g', 0, none⟩) l' cap')).heap[b]? = wy.heap[b]? := fun b hb => Below.heap_setCell wy _ _ b (fun e => hb (by simpa using e))
  have hrow : RowL9 wy g vs := (hg.block g hgb (fun e => h.off j u hu e.symm)).trans h.row
  refine ⟨hrow.set j _, by simpa using h.len, fun jj x hx => ?_, fun jj kk x y b hx hy hne hb => ?_, fun jj x hx => ?_, ?_⟩
  · by_cases q : jj = j
    · subst q
      rw [List.getElem?_set_self (by rw [h.len]; exact hj), Option.some.injEq] at hx
      subst hx
      rw [show clen i (jj + 1) jj = i + 1 by simp [clen], colL_succ]
      exact ho.keep (fun b hb _ => hset b (fun e => hgg (by simp [Value.ownBlock] at hb; omega)))
    · rw [List.getElem?_set_ne (by omega)] at hx
      have e : clen i (j + 1) jj = clen i j jj := by unfold clen; split <;> split <;> omega
      rw [e]
      refine (h.own jj x hx).keep (fun b hb hlt => ?_)
      rw [hset b (fun e => h.off jj x hx (by rw [hb, e]))]
      exact hg.block b hlt (fun e => h.apart jj j x u b hx hu q hb e.symm)
  · have blt : ∀ {n : Nat} {z : Value}, vs[n]? = some z → z.ownBlock = some b → b < wx.heap.size := fun hz hb => (World.ownsRow.lt (h.own _ _ hz) b hb).2
    by_cases q : jj = j
    · subst q
      rw [List.getElem?_set_self (by rw [h.len]; exact hj), Option.some.injEq] at hx
      rw [List.getElem?_set_ne (by omega)] at hy
      subst hx
      simp only [Value.ownBlock, Option.some.injEq] at hb
      subst hb
      intro e
      rcases hw with q | q
      · exact h.apart jj kk u y g' hu hy hne q e
      · have := blt hy e
        omega
    · rw [List.getElem?_set_ne (by omega)] at hx
      by_cases q2 : kk = j
      · subst q2
        rw [List.getElem?_set_self (by rw [h.len]; exact hj), Option.some.injEq] at hy
        subst hy
        simp only [Value.ownBlock, ne_eq, Option.some.injEq]
        intro e
        subst e
        rcases hw with q3 | q3
        · exact h.apart jj kk x u g' hx hu q hb q3
        · have := blt hx hb
          omega
      · rw [List.getElem?_set_ne (by omega)] at hy
        exact h.apart jj kk x y b hx hy hne hb
  · by_cases q : jj = j
    · subst q
      rw [List.getElem?_set_self (by rw [h.len]; exact hj), Option.some.injEq] at hx
      subst hx
      simp only [Value.ownBlock, ne_eq, Option.some.injEq]
      exact hgg
    · rw [List.getElem?_set_ne (by omega)] at hx
      exact h.off jj x hx
  · have e : ∀ _ : Nat, (wy.setCell ⟨g, j, none⟩ (.slice (some ⟨g', 0, none⟩) l' cap')).heap.size = wy.heap.size := fun _ => by simp
    refine ⟨hg.os.trans h.kp.os, hg.tape.trans h.kp.tape, hg.output.trans h.kp.output, by rw [e 0]; exact Nat.le_trans h.kp.size hg.size, fun b hlt hne => ?_⟩
    rw [hset b hne, hg.block b (Nat.lt_of_lt_of_le hlt h.kp.size) (fun e => ?_)]
    · exact h.kp.block b hlt hne
    · have := (World.ownsRow.lt (h.own j u hu) b e.symm).1
      omega
theorem ColsI.row_end {w wx : World} {g c i : Nat} {ps : List (Value × Value)} {vs : List Value} (h : ColsI w wx g c i c ps vs) : ColsI w wx g c (i + 1) 0 ps vs := by
  refine ⟨h.row, h.len, fun jj u hu => ?_, h.apart, h.off, h.kp⟩
  have hj : jj < c := by rw [← h.len]; exact (List.getElem?_eq_some_iff.1 hu).1
  have e : clen (i + 1) 0 jj = clen i c jj := by simp [clen, hj]
  rw [e]
  exact h.own jj u hu
theorem ColsI.start {w wx : World} {g c : Nat} (ps : List (Value × Value)) (h : RowL9 wx g (List.replicate c (.slice none 0 0))) (hb : Kp w.heap.size g w wx) : ColsI w wx g c 0 0 ps (List.replicate c (.slice none 0 0)) := by
  have key : ∀ (jj : Nat) (u : Value), (List.replicate c (Value.slice none 0 0))[jj]? = some u → u = .slice none 0 0 := fun jj u hu => List.eq_of_mem_replicate (List.mem_of_getElem? hu)
  refine ⟨h, by simp, fun jj u hu => ?_, fun jj kk u u' b hu _ _ hb => ?_, fun jj u hu => ?_, hb⟩
  · rw [key jj u hu]
    simpa [clen, colL, OwnP, flat] using World.ownsRow_nil wx w.heap.size 25 2
  · rw [key jj u hu] at hb; cases hb
  · rw [key jj u hu]; simp [Value.ownBlock]
def colsL {α : Type} (r c : Nat) (ps : List α) (z : α) : List (List α) := (List.range c).map (colL c ps z r)
theorem ColsI.done {w wx : World} {g c r : Nat} {ps : List (Value × Value)} {vs : List Value} (h : ColsI w wx g c r 0 ps vs) (hc : c ≤ 64) (hr : r ≤ 64) : Prr w.heap.size wx (.slice (some ⟨g, 0, none⟩) c c) (colsL r c ps zpair) := by
  refine ⟨some ⟨g, 0, none⟩, c, by simp [colsL], by simp [colsL], by simp [colsL]; omega, .inr ⟨g, 0, rfl, h.row.blk, fun j qs hq => ?_⟩⟩
  have hj : j < c := by simpa [colsL] using (List.getElem?_eq_some_iff.1 hq).1
  have hv : vs[j]? = some (vs[j]'(by rw [h.len]; exact hj)) := List.getElem?_eq_getElem (by rw [h.len]; exact hj)
  refine ⟨_, by rw [Nat.zero_add]; exact h.row.at hv, ?_⟩
  have e : qs = colL c ps zpair r j := by
    simp [colsL, hj] at hq
    exact hq.symm
  rw [e]
  have := h.own j _ hv
  rw [show clen r 0 j = r by simp [clen]] at this
  exact owns_prs this (by rw [colL_length]; omega)
end Go.Proofs.Ytnpcfohimlfbdaa
