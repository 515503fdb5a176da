/-
  QColsP9ToOpenM9: ColsP9, Cols9, Prod9, Mat9, Chk9, Mul9, Unit9, Add9, Law9, Wake9, OpenM9, joined.
-/
import Derived.Test.YtiedmlfiboalhaaGreatQDot9ToDotsA9
import Derived.Test.YtiedmlfiboalhaaGreatQAlikeToShift

/- ColsP9 -/
namespace Go.Proofs.YtiedmlfiboalhaaGreat
open Go.RowKit
set_option linter.unusedVariables false

/-- How long column jj is when i rows are through, and j places of the next. -/
def clen (i j jj : Nat) : Nat := if jj < j then i + 1 else i
def colL {α : Type} (c : Nat) (ps : List α) (z : α) (n j : Nat) : List α := (List.range n).map fun t => ps.getD (t * c + j) z
/-- All that lay below N, but for the block g, is as it was. -/
structure Kp (N g : Nat) (w wx : World) : Prop where
  os : wx.os = w.os
  tape : wx.tape = w.tape
  output : wx.output = w.output
  size : w.heap.size ≤ wx.heap.size
  block : ∀ b, b < N → b ≠ g → wx.heap[b]? = w.heap[b]?
theorem Kp.refl (N g : Nat) (w : World) : Kp N g w w := ⟨rfl, rfl, rfl, Nat.le_refl _, fun _ _ _ => rfl⟩
theorem Kp.step {g : Nat} {w wx wy : World} (h : Kp w.heap.size g w wx) (hb : Below wx.heap.size wx wy) : Kp w.heap.size g w wy :=
  ⟨hb.os.trans h.os, hb.tape.trans h.tape, hb.output.trans h.output, Nat.le_trans h.size hb.size, fun b hlt hne => (hb.block b (Nat.lt_of_lt_of_le hlt h.size)).trans (h.block b hlt hne)⟩
theorem Kp.below {g : Nat} {w0 w wx : World} (h : Kp w.heap.size g w wx) (hb : Below w0.heap.size w0 w) (hg : w0.heap.size ≤ g) : Below w0.heap.size w0 wx :=
  ⟨h.os.trans hb.os, h.tape.trans hb.tape, h.output.trans hb.output, Nat.le_trans hb.size h.size, fun b hlt => (h.block b (Nat.lt_of_lt_of_le hlt hb.size) (by omega)).trans (hb.block b hlt)⟩
theorem Kp.cell {g b i : Nat} {w wx : World} {v : Value} (h : Kp w.heap.size g w wx) (hb : b ≠ g) (hc : w.cell? ⟨b, i, none⟩ = some v) : wx.cell? ⟨b, i, none⟩ = some v :=
  (World.cell?_of_block (h.block b (World.block_lt_of_cell? w _ hc) hb)).trans hc
structure ColsI (w wx : World) (g c i j : Nat) (ps : List (Value × Value)) (vs : List Value) : Prop where
  row : RowL9 wx g vs
  len : vs.length = c
  own : ∀ (jj : Nat) (u : Value), vs[jj]? = some u → OwnP w.heap.size wx u (colL c ps zpair (clen i j jj) jj)
  apart : ∀ (jj kk : Nat) (u u' : Value) (b : Nat), vs[jj]? = some u → vs[kk]? = some u' → jj ≠ kk → u.ownBlock = some b → u'.ownBlock ≠ some b
  off : ∀ (jj : Nat) (u : Value), vs[jj]? = some u → u.ownBlock ≠ some g
  kp : Kp w.heap.size g w wx
theorem OwnP.keep {B : Nat} {w w' : World} {v : Value} {ps : List (Value × Value)} (h : OwnP B w v ps) (hk : ∀ b, v.ownBlock = some b → b < w.heap.size → w'.heap[b]? = w.heap[b]?) : OwnP B w' v ps := owns_keep h hk
theorem ColsI.step {w wx wy : World} {g c i j : Nat} {ps : List (Value × Value)} {vs : List Value} (h : ColsI w wx g c i j ps vs) (hb : Below wx.heap.size wx wy) : ColsI w wy g c i j ps vs :=
  ⟨h.row.step hb, h.len, fun jj u hu => (h.own jj u hu).keep (fun b _ hlt => hb.block b hlt), h.apart, h.off, h.kp.step hb⟩
theorem colL_succ {α : Type} {c : Nat} {ps : List α} {z : α} {n j : Nat} : colL c ps z (n + 1) j = colL c ps z n j ++ [ps.getD (n * c + j) z] := by simp [colL, List.range_succ]
theorem colL_length {α : Type} {c : Nat} {ps : List α} {z : α} {n j : Nat} : (colL c ps z n j).length = n := by simp [colL]
/-- One place more. -/
theorem ColsI.next {w wx wy : World} {g c i j l' g' cap' : Nat} {ps : List (Value × Value)} {vs : List Value} {u : Value} (h : ColsI w wx g c i j ps vs) (hj : j < c) (hu : vs[j]? = some u)
    (ho : OwnP w.heap.size wy (.slice (some ⟨g', 0, none⟩) l' cap') (colL c ps zpair i j ++ [ps.getD (i * c + j) zpair])) (hg : wx.grownBy wy u.ownBlock) (hw : u.ownBlock = some g' ∨ g' = wx.heap.size) :
    ColsI w (wy.setCell ⟨g, j, none⟩ (.slice (some ⟨g', 0, none⟩) l' cap')) g c i (j + 1) ps (vs.set j (.slice (some ⟨g', 0, none⟩) l' cap')) := by
  have hgb : g < wx.heap.size := h.row.blk
  have hgg : g' ≠ g := by
    rcases hw with q | q
    · intro e
      subst e
      exact h.off j u hu q
    · omega
  have hset : ∀ b, b ≠ g → (wy.setCell ⟨g, j, none⟩ (.slice (some ⟨g', 0, none⟩) l' cap')).heap[b]? = wy.heap[b]? := fun b hb => Below.heap_setCell wy _ _ b (fun e => hb (by simpa using e))
  have hrow : RowL9 wy g vs := (hg.block g hgb (fun e => h.off j u hu e.symm)).trans h.row
  refine ⟨hrow.set j _, by simpa using h.len, fun jj x hx => ?_, fun jj kk x y b hx hy hne hb => ?_, fun jj x hx => ?_, ?_⟩
  · by_cases q : jj = j
    · subst q
      rw [List.getElem?_set_self (by rw [h.len]; exact hj), Option.some.injEq] at hx
      subst hx
      rw [show clen i (jj + 1) jj = i + 1 by simp [clen], colL_succ]
      exact ho.keep (fun b hb _ => hset b (fun e => hgg (by simp [Value.ownBlock] at hb; omega)))
    · rw [List.getElem?_set_ne (by omega)] at hx
      have e : clen i (j + 1) jj = clen i j jj := by unfold clen; split <;> split <;> omega
      rw [e]
      refine (h.own jj x hx).keep (fun b hb hlt => ?_)
      rw [hset b (fun e => h.off jj x hx (by rw [hb, e]))]
      exact hg.block b hlt (fun e => h.apart jj j x u b hx hu q hb e.symm)
  · have blt : ∀ {n : Nat} {z : Value}, vs[n]? = some z → z.ownBlock = some b → b < wx.heap.size := fun hz hb => (World.ownsRow.lt (h.own _ _ hz) b hb).2
    by_cases q : jj = j
    · subst q
      rw [List.getElem?_set_self (by rw [h.len]; exact hj), Option.some.injEq] at hx
      rw [List.getElem?_set_ne (by omega)] at hy
      subst hx
      simp only [Value.ownBlock, Option.some.injEq] at hb
      subst hb
      intro e
      rcases hw with q | q
      · exact h.apart jj kk u y g' hu hy hne q e
      · have := blt hy e
        omega
    · rw [List.getElem?_set_ne (by omega)] at hx
      by_cases q2 : kk = j
      · subst q2
        rw [List.getElem?_set_self (by rw [h.len]; exact hj), Option.some.injEq] at hy
        subst hy
        simp only [Value.ownBlock, ne_eq, Option.some.injEq]
        intro e
        subst e
        rcases hw with q3 | q3
        · exact h.apart jj kk x u g' hx hu q hb q3
        · have := blt hx hb
          omega
      · rw [List.getElem?_set_ne (by omega)] at hy
        exact h.apart jj kk x y b hx hy hne hb
  · by_cases q : jj = j
    · subst q
      rw [List.getElem?_set_self (by rw [h.len]; exact hj), Option.some.injEq] at hx
      subst hx
      simp only [Value.ownBlock, ne_eq, Option.some.injEq]
      exact hgg
    · rw [List.getElem?_set_ne (by omega)] at hx
      exact h.off jj x hx
  · have e : ∀ _ : Nat, (wy.setCell ⟨g, j, none⟩ (.slice (some ⟨g', 0, none⟩) l' cap')).heap.size = wy.heap.size := fun _ => by simp
    refine ⟨hg.os.trans h.kp.os, hg.tape.trans h.kp.tape, hg.output.trans h.kp.output, by rw [e 0]; exact Nat.le_trans h.kp.size hg.size, fun b hlt hne => ?_⟩
    rw [hset b hne, hg.block b (Nat.lt_of_lt_of_le hlt h.kp.size) (fun e => ?_)]
    · exact h.kp.block b hlt hne
    · have := (World.ownsRow.lt (h.own j u hu) b e.symm).1
      omega
theorem ColsI.start {w wx : World} {g c : Nat} (ps : List (Value × Value)) (h : RowL9 wx g (List.replicate c (.slice none 0 0))) (hb : Kp w.heap.size g w wx) : ColsI w wx g c 0 0 ps (List.replicate c (.slice none 0 0)) := by
  have key : ∀ (jj : Nat) (u : Value), (List.replicate c (Value.slice none 0 0))[jj]? = some u → u = .slice none 0 0 := fun jj u hu => List.eq_of_mem_replicate (List.mem_of_getElem? hu)
  refine ⟨h, by simp, fun jj u hu => ?_, fun jj kk u u' b hu _ _ hb => ?_, fun jj u hu => ?_, hb⟩
  · rw [key jj u hu]
    simpa [clen, colL, OwnP, flat] using World.ownsRow_nil wx w.heap.size 43 2
  · rw [key jj u hu] at hb; cases hb
  · rw [key jj u hu]; simp [Value.ownBlock]
def colsL {α : Type} (r c : Nat) (ps : List α) (z : α) : List (List α) := (List.range c).map (colL c ps z r)
theorem ColsI.done {w wx : World} {g c r : Nat} {ps : List (Value × Value)} {vs : List Value} (h : ColsI w wx g c r 0 ps vs) (hc : c ≤ 64) (hr : r ≤ 64) : Prr w.heap.size wx (.slice (some ⟨g, 0, none⟩) c c) (colsL r c ps zpair) := by
  refine ⟨some ⟨g, 0, none⟩, c, by simp [colsL], by simp [colsL], by simp [colsL]; omega, .inr ⟨g, 0, rfl, h.row.blk, fun j qs hq => ?_⟩⟩
  have hj : j < c := by simpa [colsL] using (List.getElem?_eq_some_iff.1 hq).1
  have hv : vs[j]? = some (vs[j]'(by rw [h.len]; exact hj)) := List.getElem?_eq_getElem (by rw [h.len]; exact hj)
  refine ⟨_, by rw [Nat.zero_add]; exact h.row.at hv, ?_⟩
  have e : qs = colL c ps zpair r j := by
    simp [colsL, hj] at hq
    exact hq.symm
  rw [e]
  have := h.own j _ hv
  rw [show clen r 0 j = r by simp [clen]] at this
  exact owns_prs this (by rw [colL_length]; omega)
end Go.Proofs.YtiedmlfiboalhaaGreat

/- Cols9 -/
namespace Go.Proofs.YtiedmlfiboalhaaGreat
open Go.RowKit
set_option linter.unusedVariables false

end Go.Proofs.YtiedmlfiboalhaaGreat

/- Prod9 -/
namespace Go.Proofs.YtiedmlfiboalhaaGreat
open Go.RowKit
set_option linter.unusedVariables false

def Zcss (w : World) (pss : List (List (Value × Value))) (zss : List (List Int)) (k : Nat) : Prop := pss.length = zss.length ∧ ∀ (j : Nat) (ps : List (Value × Value)), pss[j]? = some ps → Zcs w ps (zss.getD j []) k
theorem Zcs.append {w : World} {ps qs : List (Value × Value)} {zs ys : List Int} {k : Nat} (h : Zcs w ps zs k) (h' : Zcs w qs ys k) : Zcs w (ps ++ qs) (zs ++ ys) k := by
  refine ⟨by simp [h.1, h'.1], fun j p z hp hz => ?_⟩
  by_cases q : j < ps.length
  · rw [List.getElem?_append_left q] at hp
    rw [List.getElem?_append_left (by rw [← h.1]; exact q)] at hz
    exact h.2 j p z hp hz
  · rw [List.getElem?_append_right (by omega)] at hp
    rw [List.getElem?_append_right (by rw [← h.1]; omega), ← h.1] at hz
    exact h'.2 _ p z hp hz
theorem Zcss.flat {w : World} {k : Nat} : ∀ {pss : List (List (Value × Value))} {zss : List (List Int)}, Zcss w pss zss k → Zcs w pss.flatten zss.flatten k
  | [], [], _ => ⟨rfl, fun j p z hp => by simp at hp⟩
  | [], z :: zss, h => by have := h.1; simp at this
  | p :: pss, [], h => by have := h.1; simp at this
  | p :: pss, z :: zss, h => by
    have h1 := h.2 0 p rfl
    have h2 : Zcss w pss zss k := ⟨by have := h.1; simpa using this, fun j ps hp => by simpa using h.2 (j + 1) ps (by simpa using hp)⟩
    simpa using Zcs.append h1 (Zcss.flat h2)
theorem Zcss.now {w w' : World} {pss : List (List (Value × Value))} {zss : List (List Int)} {k : Nat} (h : Zcss w pss zss k) (hb : Below w.heap.size w w') : Zcss w' pss zss k := ⟨h.1, fun j ps hp => (h.2 j ps hp).now hb⟩
theorem Zis.isI {w : World} {ps : List (Value × Value)} {zs : List Int} {k : Nat} (h : Zis w ps zs k) : ∀ p ∈ ps, IsI p := fun p hp => by
  obtain ⟨j, hj, e⟩ := List.getElem_of_mem hp
  have h1 : ps[j]? = some p := by rw [List.getElem?_eq_getElem hj, e]
  have h2 : zs[j]? = some (zs[j]'(by rw [← h.1]; exact hj)) := List.getElem?_eq_getElem _
  exact (h.2 j p _ h1 h2).isI
end Go.Proofs.YtiedmlfiboalhaaGreat

/- Mat9 -/
namespace Go.Proofs.YtiedmlfiboalhaaGreat
open Go.RowKit
set_option linter.unusedVariables false

/-- A sound matrix with these entries, in whatever form; in least form. -/
def Mx (w : World) (v : Value) (r c : Nat) (zs : List Int) (k : Nat) : Prop := ∃ at_ ps, v = matv r c at_ ∧ Prs 0 w at_ ps ∧ Zis w ps zs k ∧ zs.length = r * c ∧ r ≤ 64 ∧ c ≤ 64
def Mc (w : World) (v : Value) (r c : Nat) (zs : List Int) (k : Nat) : Prop := ∃ at_ ps, v = matv r c at_ ∧ Prs 0 w at_ ps ∧ Zcs w ps zs k ∧ zs.length = r * c ∧ r ≤ 64 ∧ c ≤ 64
theorem Mx.now {w w' : World} {v : Value} {r c : Nat} {zs : List Int} {k : Nat} (h : Mx w v r c zs k) (hb : Below w.heap.size w w') : Mx w' v r c zs k := by
  obtain ⟨a, ps, h1, h2, h3, h4⟩ := h
  exact ⟨a, ps, h1, h2.now hb, h3.now hb, h4⟩
theorem Mc.now {w w' : World} {v : Value} {r c : Nat} {zs : List Int} {k : Nat} (h : Mc w v r c zs k) (hb : Below w.heap.size w w') : Mc w' v r c zs k := by
  obtain ⟨a, ps, h1, h2, h3, h4⟩ := h
  exact ⟨a, ps, h1, h2.now hb, h3.now hb, h4⟩
theorem Mc.mx {w : World} {v : Value} {r c : Nat} {zs : List Int} {k : Nat} (h : Mc w v r c zs k) : Mx w v r c zs k := by
  obtain ⟨a, ps, h1, h2, h3, h4⟩ := h
  exact ⟨a, ps, h1, h2, h3.zis, h4⟩
theorem Mx.form {w : World} {v : Value} {r c : Nat} {zs : List Int} {k : Nat} (h : Mx w v r c zs k) : ∃ a cap, v = matv r c (.slice a (r * c) cap) ∧ r ≤ 64 ∧ c ≤ 64 := by
  obtain ⟨a, ps, h1, h2, h3, h4, h5, h6⟩ := h
  obtain ⟨a0, c0, rfl, -, -, -, -⟩ := h2.form
  rw [h3.1, h4] at h1
  exact ⟨a0, c0, h1, h5, h6⟩
def GivesM (w : World) (r c : Nat) (zs : List Int) (k : Nat) (e : Ending) (w' : World) : Prop := ∃ v, e = .returned v ∧ Mc w' v r c zs k ∧ Below w.heap.size w w'
abbrev matO (r c : Nat) (at_ : Value) : Obj := .cells #[.int .i64 (r : Int), .int .i64 (c : Int), at_] 24
end Go.Proofs.YtiedmlfiboalhaaGreat

/- Chk9 -/
namespace Go.Proofs.YtiedmlfiboalhaaGreat
open Go.RowKit
set_option linter.unusedVariables false

set_option maxHeartbeats 800000 in
set_option maxRecDepth 100000 in
theorem isShape_yes {w : World} {r c : Nat} (hr : r ≤ 64) (hc : c ≤ 64) : Calls Tryz.prog 58 #[.int .i64 (r : Int), .int .i64 (c : Int)] w fun e w' => e = .returned (.bool true) ∧ w' = w := by
  have h1 : (0 : Int) ≤ (r : Int) := by omega
  have h2 : (0 : Int) ≤ (c : Int) := by omega
  have h3 : (r : Int) ≤ 64 := by omega
  have h4 : (c : Int) ≤ 64 := by omega
  have h5 : max (r : Int) (c : Int) ≤ 64 := by omega
  have h6 : 0 ≤ min (r : Int) (c : Int) := by omega
  go_enter Tryz.func58, Tryz.ntmps58
  go_wp2
  go_ret
  exact ⟨rfl, rfl⟩
set_option maxHeartbeats 800000 in
set_option maxRecDepth 100000 in
theorem check_yes {w : World} {v : Value} {r c : Nat} {zs : List Int} {k : Nat} (h : Mx w v r c zs k) : Calls Tryz.prog 39 #[v] w fun e w' => e = .returned (.int .i64 0) ∧ Below w.heap.size w w' := by
  obtain ⟨a, cap, rfl, hr, hc⟩ := h.form
  have hm0 := wrapM9 (i := r) (c := c) hr hc
  obtain ⟨n, hn⟩ : ∃ n, r * c = n := ⟨_, rfl⟩
  rw [hn] at hm0
  have hm2 := hm0
  rw [IntKind.wrap_i64] at hm2
  rw [hn]
  obtain ⟨W0, hW⟩ : ∃ W0, w.alloc (matO r c (.slice a n cap)) = W0 := ⟨_, rfl⟩
  obtain ⟨b0, sz0⟩ := alo1 w (matO r c (.slice a n cap))
  rw [hW] at b0 sz0
  have P1 : Hid (Cel W0 w.heap.size 24 (matc r c (.slice a n cap))) := by unfold Hid; rw [← hW]; exact Cel.new w _ _
  have x0 := P1.out.at (i := 0) rfl
  have x1 := P1.out.at (i := 1) rfl
  have x2 := P1.out.at (i := 2) rfl
  rw [← hW] at x0 x1 x2
  have HS := hid (isShape_yes (w := W0) hr hc)
  have G0 := hid b0
  have EW := hid hW
  have q0 : ((n : Int) != (n : Int)) = false := by simp
  clear b0 sz0 hW h hn P1
  go_enter Tryz.func39, Tryz.ntmps39
  go_wp2_with fail
  rw [EW.out]
  refine HS.out.mono ?_
  rintro e w1 ⟨rfl, rfl⟩
  rw [EW.out] at x0 x1 x2
  go_wp2
  go_ret
  exact ⟨rfl, G0.out⟩
end Go.Proofs.YtiedmlfiboalhaaGreat

/- Mul9 -/
namespace Go.Proofs.YtiedmlfiboalhaaGreat
open Go.RowKit
set_option linter.unusedVariables false

/-- What a call answers that gives a matrix and an error. -/
def GivesMO (w : World) (r c : Nat) (zs : List Int) (k : Nat) (e : Ending) (w' : World) : Prop := ∃ v, e = .returned (.tuple #[v, .int .i64 0]) ∧ Mc w' v r c zs k ∧ Below w.heap.size w w'
theorem Mc.wk {w : World} {v : Value} {r c : Nat} {zs : List Int} {k b : Nat} (h : Mc w v r c zs k) {x0 x1 : Int} {a : Option Addr} {l n : Nat} (d : Cel w b 24 [.int .i64 x0, .int .i64 x1, .slice a l n]) (y0 y1 y2 : Value) : Mc (put3 w b y0 y1 y2) v r c zs k := by
  obtain ⟨at_, ps, h1, h2, h3, h4⟩ := h
  refine ⟨at_, ps, h1, ?_, h3.wk (d.wk3 _ _ _), h4⟩
  obtain ⟨a', c', e1, e2, e3, e4, e5⟩ := h2
  refine ⟨a', c', e1, e2, e3, e4, ?_⟩
  rcases e5 with e5 | ⟨b', off, e6, e7, e8, e9⟩
  · exact .inl e5
  · refine .inr ⟨b', off, e6, e7, by simpa using e8, fun j p hp => ?_⟩
    have hne : b ≠ b' := by
      intro e
      subst e
      have hz : zs[j]? = some (zs[j]'(by rw [← h3.1]; exact (List.getElem?_eq_some_iff.1 hp).1)) := List.getElem?_eq_getElem _
      obtain ⟨n1, a1, l1, c1, q⟩ := (h3.2 j p _ hp hz).zi.isI
      have q1 := (e9 j p hp).1
      rw [show p.1 = .bool n1 by rw [Prod.mk.injEq] at q; exact q.1] at q1
      have q2 : w.heap[b]? = some (.cells #[.int .i64 x0, .int .i64 x1, .slice a l n] 24 (0, 0)) := d
      simp only [World.cell?, q2] at q1
      simp at q1
      generalize off + j * 2 = o at q1
      match o, q1 with
      | 0, q1 => simp at q1
      | 1, q1 => simp at q1
      | 2, q1 => simp at q1
      | o + 3, q1 => simp at q1
    have e : ∀ o, (put3 w b y0 y1 y2).cell? ⟨b', o, none⟩ = w.cell? ⟨b', o, none⟩ := fun o => by
      rw [World.cell?_setCell_other _ _ _ _ (by simp <;> omega), World.cell?_setCell_other _ _ _ _ (by simp <;> omega), World.cell?_setCell_other _ _ _ _ (by simp <;> omega)]
    rw [e, e]
    exact e9 j p hp
end Go.Proofs.YtiedmlfiboalhaaGreat

/- Unit9 -/
namespace Go.Proofs.YtiedmlfiboalhaaGreat
open Go.RowKit
set_option linter.unusedVariables false

theorem Arr.ne {w : World} {g b i : Nat} {u : Value} {ps : List (Value × Value)} (h : Arr w g ps) (hne : b ≠ g) : Arr (w.setCell ⟨b, i, none⟩ u) g ps := ⟨h.1.ne hne, h.2⟩
theorem Arr.put3 {w : World} {g b : Nat} {ps : List (Value × Value)} (h : Arr w g ps) (hne : b ≠ g) (y0 y1 y2 : Value) : Arr (put3 w b y0 y1 y2) g ps := ((h.ne hne).ne hne).ne hne
def Zeroed (w : World) (r c n : Nat) (e : Ending) (w' : World) : Prop := ∃ g, e = .returned (.tuple #[matv r c (.slice (some ⟨g, 0, none⟩) n n), .int .i64 0]) ∧ w.heap.size ≤ g ∧ Arr w' g (List.replicate n zpair) ∧ Below w.heap.size w w'
def unitL (n : Nat) : Nat → List Int
  | 0 => List.replicate (n * n) 0
  | i + 1 => (unitL n i).set (i * n + i) 1
theorem unitL_length (n : Nat) : ∀ i, (unitL n i).length = n * n
  | 0 => by simp [unitL]
  | i + 1 => by simp [unitL, unitL_length n i]
theorem Zcs.set {w w' : World} {ps : List (Value × Value)} {zs : List Int} {k t : Nat} {x y : Value} {z : Int} (h : Zcs w ps zs k) (hk : Wk w w') (hz : Zc w' (.agg #[x, y]) z k) : Zcs w' (ps.set t (x, y)) (zs.set t z) k := by
  refine ⟨by simp [h.1], fun j p q hp hq => ?_⟩
  by_cases e : j = t
  · subst e
    have h1 : j < ps.length := by simpa using (List.getElem?_eq_some_iff.1 hp).1
    rw [List.getElem?_set_self h1, Option.some.injEq] at hp
    rw [List.getElem?_set_self (by rw [← h.1]; exact h1), Option.some.injEq] at hq
    rw [← hp, ← hq]
    exact hz
  · rw [List.getElem?_set_ne (by omega)] at hp hq
    exact (h.2 j p q hp hq).wk hk
theorem zcs_zero (w : World) (n k : Nat) : Zcs w (List.replicate n zpair) (List.replicate n 0) k := by
  refine ⟨by simp, fun j p z hp hz => ?_⟩
  have e1 : p = zpair := List.eq_of_mem_replicate (List.mem_of_getElem? hp)
  have e2 : z = 0 := List.eq_of_mem_replicate (List.mem_of_getElem? hz)
  rw [e1, e2]
  exact ⟨false, [], none, 0, rfl, Sl.nil _, ⟨WF.nil, rfl⟩, fun _ => rfl, by simp [iv, val], Nat.zero_le _⟩
end Go.Proofs.YtiedmlfiboalhaaGreat

/- Add9 -/
namespace Go.Proofs.YtiedmlfiboalhaaGreat
open Go.RowKit
set_option linter.unusedVariables false

theorem Mx.zl {w : World} {r c : Nat} {at_ : Value} {zs : List Int} {k : Nat} (h : Mx w (matv r c at_) r c zs k) : Zl w at_ zs k ∧ zs.length = r * c := by
  obtain ⟨a, ps, e, h2, h3, h4, -, -⟩ := h
  simp only [matv, Value.agg.injEq, Array.mk.injEq, List.cons.injEq, and_true, true_and] at e
  subst e
  exact ⟨zl_of h2 h3, h4⟩
end Go.Proofs.YtiedmlfiboalhaaGreat

/- Law9 -/
namespace Go.Proofs.YtiedmlfiboalhaaGreat
open Go.RowKit
set_option linter.unusedVariables false

theorem Zcs.at9 {B : Nat} {w : World} {b off l c : Nat} {ps : List (Value × Value)} {zs : List Int} {k : Nat} (h : Prs B w (.slice (some ⟨b, off, none⟩) l c) ps) (hz : Zcs w ps zs k) {i : Nat} (hi : i < zs.length) : ∃ n, ∃ xs : List Int, ∃ a c, w.cell? ⟨b, off + i * 2, none⟩ = some (.bool n) ∧ w.cell? ⟨b, off + i * 2 + 1, none⟩ = some (.slice a xs.length c) ∧ Zc w (.agg #[.bool n, .slice a xs.length c]) zs[i] k := by
  have hp : ps[i]? = some (ps[i]'(by rw [hz.1]; exact hi)) := List.getElem?_eq_getElem _
  have q := h.at hp
  have z := hz.2 i _ _ hp (List.getElem?_eq_getElem hi)
  have z' := z
  obtain ⟨n, xs, a, c, e, -⟩ := z
  simp only [Value.agg.injEq, Array.mk.injEq, List.cons.injEq, and_true] at e
  rw [e.1, e.2] at q
  rw [e.1, e.2] at z'
  exact ⟨n, xs, a, c, q.1, q.2, z'⟩
def SameH (w : World) (n gk : Nat) (s : Value) (wx : World) : Prop := ∃ i : Nat, s = .int .i64 (i : Int) ∧ i ≤ n ∧ gk = n - i ∧ Below w.heap.size w wx
/-- Sound, by the numbers. -/
def Snd (r c : Int) (l : Nat) : Prop := 0 ≤ r ∧ r ≤ 64 ∧ 0 ≤ c ∧ c ≤ 64 ∧ (l : Int) = r * c
def Sounded (w : World) (r c : Int) (l : Nat) (e : Ending) (w' : World) : Prop := ∃ b : Bool, e = .returned (.bool b) ∧ (b = true ↔ Snd r c l) ∧ Below w.heap.size w w'
end Go.Proofs.YtiedmlfiboalhaaGreat

/- Wake9 -/
namespace Go.Proofs.YtiedmlfiboalhaaGreat
open Go.RowKit
set_option linter.unusedVariables false

theorem Zc.parts {w : World} {v : Value} {z : Int} {k : Nat} (h : Zc w v z k) : ∃ n, ∃ xs : List Int, ∃ a c, v = .agg #[.bool n, .slice a xs.length c] := by
  obtain ⟨n, xs, a, c, e, -⟩ := h
  exact ⟨n, xs, a, c, e⟩
end Go.Proofs.YtiedmlfiboalhaaGreat

/- OpenM9 -/
namespace Go.Proofs.YtiedmlfiboalhaaGreat
open Go.ChangeShapes Go.WideShapes Go.ChangeAt Go.RowKit
set_option linter.unusedVariables false

theorem Tryz.cellsM9 : Tryz.prog.cellsOf 24 = 3 := by kernel_rfl
theorem Tryz.cellsI9 : Tryz.prog.cellsOf 3 = 1 := by kernel_rfl
theorem Tryz.cellsL9 : Tryz.prog.cellsOf 22 = 1 := by kernel_rfl
/-- A matrix as it comes in, sound or not. -/
def Raw (w : World) (v : Value) (r c : Int) (l : Nat) (zs : List Int) : Prop := ∃ a cap ps, v = .agg #[.int .i64 r, .int .i64 c, .slice a l cap] ∧ Prs 0 w (.slice a l cap) ps ∧ Zis w ps zs 1048576 ∧ zs.length = l ∧ l ≤ 1048576
theorem Raw.now {w w' : World} {v : Value} {r c : Int} {l : Nat} {zs : List Int} (h : Raw w v r c l zs) (hb : Below w.heap.size w w') : Raw w' v r c l zs := by
  obtain ⟨a, cap, ps, h1, h2, h3, h4⟩ := h
  exact ⟨a, cap, ps, h1, h2.now hb, h3.now hb, h4⟩
theorem Raw.mx {w : World} {v : Value} {r c l : Nat} {zs : List Int} (h : Raw w v (r : Int) (c : Int) l zs) (hs : Snd (r : Int) (c : Int) l) : Mx w v r c zs 1048576 := by
  obtain ⟨a, cap, ps, h1, h2, h3, h4, h5⟩ := h
  obtain ⟨s1, s2, s3, s4, s5⟩ := hs
  exact ⟨_, ps, h1, h2, h3, by rw [h4]; exact Int.ofNat.inj (by simpa using s5), by omega, by omega⟩
theorem trod_struct3m {H : Type} {enc : TypeId × Value → H} {P : Program} {w : World} {base : Nat} {spare : Nat → Bool} {held : Bool} {t : TypeId} {f0 f1 f2 : Field} {fuel : Nat} {cs : List Value} {x : DataW H × List MemPlace} (ht : P.underlying t = some (.struct #[f0, f1, f2]))
    (h : DataW.trod enc P w base spare held fuel t cs = some x) :
    ∃ y0 y1 y2 n, x.1 = .agg [y0.1, y1.1, y2.1] ∧ cs.length = P.cellsOf t ∧ DataW.trod enc P w base spare held n f0.type ((cs.drop f0.offset).take (P.cellsOf f0.type)) = some y0 ∧ DataW.trod enc P w base spare held n f1.type ((cs.drop f1.offset).take (P.cellsOf f1.type)) = some y1 ∧ DataW.trod enc P w base spare held n f2.type ((cs.drop f2.offset).take (P.cellsOf f2.type)) = some y2 := by
  obtain ⟨xs, n, _, rfl, hl, hlen, hf⟩ := DataW.trod_struct ht h
  match xs, hlen with
  | [y0, y1, y2], _ => exact ⟨y0, y1, y2, n, by simp, hl, by simpa using hf 0 f0 rfl, by simpa using hf 1 f1 rfl, by simpa using hf 2 f2 rfl⟩
set_option maxRecDepth 100000 in
theorem open_list9 {H : Type} {enc : TypeId × Value → H} {W : World} {fuel : Nat} {v : Value} {y : DataW H × List MemPlace}
    (hf : DataW.trod enc Tryz.prog W 0 (fun _ => true) true fuel 22 [v] = some y) (hb : Rows.uptoBulk y.1 ≤ 1048576) :
    ∃ a l cap ps zs, v = .slice a l cap ∧ Prs 0 W (.slice a l cap) ps ∧ Zis W ps zs 1048576 ∧ zs.length = l ∧ l ≤ 1048576 := by
  have hn : ∀ c, v = .slice none 0 c → c = 0 := by
    rcases Deep.open_slice Tryz.underlying22 hf with ⟨hcs, _⟩ | ⟨x, len, cap, m, n, D, Pl, hcs, _⟩
    · simp only [List.cons.injEq, and_true] at hcs
      intro c e
      rw [hcs] at e
      simpa using e.symm
    · simp only [List.cons.injEq, and_true] at hcs
      intro c e
      rw [hcs] at e
      simp at e
  obtain ⟨zs, ks, h1, h2⟩ := open_ints1 hf hb
  have hz := h1.zl (K := 1048576) (by omega)
  obtain ⟨ps, p1, p2⟩ := hz.prs hn
  obtain ⟨a, c, e, -, hl, -⟩ := hz
  subst e
  exact ⟨a, zs.length, c, ps, zs, rfl, p1, p2, rfl, hl⟩
set_option maxRecDepth 100000 in
theorem open_mat9 {H : Type} {enc : TypeId × Value → H} {W : World} {r : Reach} {b0 : Nat} {v : Value} {d : DataW H} {p : List MemPlace}
    (hv : Value.okWide Tryz.prog W r b0 24 v) (h0 : DataW.Trod enc Tryz.prog W 0 (fun _ => true) true 24 v d p) (hb : Rows.uptoBulk d ≤ 1048576) :
    ∃ r c l zs, Raw W v r c l zs := by
  obtain ⟨cs, rfl, hsz⟩ := okWide_struct Tryz.underlying24 hv
  obtain ⟨fuel, hf⟩ := h0
  obtain ⟨y0, y1, y2, n, hx, hl, t0, t1, t2⟩ := trod_struct3m Tryz.underlying24 hf
  obtain ⟨L, rfl⟩ : ∃ L : List Value, cs = L.toArray := ⟨cs.toList, by simp⟩
  simp only [Value.cells] at hl t0 t1 t2
  rw [Tryz.cellsM9] at hl
  have hx' : d = .agg [y0.1, y1.1, y2.1] := hx
  subst hx'
  simp only [Rows.uptoBulk, Rows.uptoBulkAll] at hb
  match L, hl with
  | [e0, e1, e2], _ =>
    simp only [Tryz.cellsI9, Tryz.cellsL9, List.drop_zero, List.drop_succ_cons, List.take_succ_cons, List.take_zero] at t0 t1 t2
    obtain ⟨k0, q0, _, _⟩ := DataW.trod_int Tryz.underlying3 t0
    obtain ⟨k1, q1, _, _⟩ := DataW.trod_int Tryz.underlying3 t1
    simp only [List.cons.injEq, and_true] at q0 q1
    subst q0 q1
    obtain ⟨a, l, cap, ps, zs, rfl, h1, h2, h3, h4⟩ := open_list9 t2 (by omega)
    exact ⟨_, _, l, zs, a, cap, ps, rfl, h1, h2, h3, h4⟩
end Go.Proofs.YtiedmlfiboalhaaGreat
