/-
  QCat9ToColsP9: Cat9, Each9, DotsA9, ColsP9, joined.
-/
import Derived.Test.YtonmlmdnjjafhaaGreatQFil9ToRowsOf9
import Derived.Lib.AppendZeros
import Derived.Laws.AppendOwnNone

/- Cat9 -/
namespace Go.Proofs.YtonmlmdnjjafhaaGreat
open Go.RowKit
set_option linter.unusedVariables false

theorem owns_keep {w w' : World} {base : Nat} {e : TypeId} {size : Nat} {v : Value} {n : Nat} {xs : List Value} (h : w.ownsRow base e size v n xs) (hk : ∀ b, v.ownBlock = some b → b < w.heap.size → w'.heap[b]? = w.heap[b]?) : w'.ownsRow base e size v n xs := by
  obtain ⟨q1, q2 | ⟨g, cap, cur, q2, q3, q4, q5⟩⟩ := h
  · exact ⟨q1, .inl q2⟩
  · exact ⟨q1, .inr ⟨g, cap, cur, q2, q3, (hk g (by rw [q2]; rfl) (Array.getElem?_eq_some_iff.1 q4).1).trans q4, q5⟩⟩
/-- Gathered pairs as a list. -/
theorem owns_prs {w : World} {B : Nat} {v : Value} {ps : List (Value × Value)} (h : w.ownsRow B 36 2 v ps.length (flat ps)) (hl : ps.length ≤ 1048576) : Prs B w v ps := by
  have h1' := h
  obtain ⟨q1, ⟨q2, q3⟩ | ⟨g, cap, cur, q2, q3, q4, q5, q6⟩⟩ := h
  · rw [q2]
    have : ps = [] := List.eq_nil_of_length_eq_zero q3
    subst this
    exact Prs.nil _ _
  · refine ⟨_, cap, q2, q5, hl, (fun q => by cases q), .inr ⟨g, 0, rfl, q3, (Array.getElem?_eq_some_iff.1 q4).1, fun j p hp => ?_⟩⟩
    have ea : ∀ j, (⟨g, 0, none⟩ : Addr).add j = ⟨g, j, none⟩ := fun j => by unfold Addr.add; split <;> simp_all
    have c0 := World.ownsRow.cells h1' (g := g) (by rw [q2]; rfl) _ _ (flat_get hp).1
    have c1 := World.ownsRow.cells h1' (g := g) (by rw [q2]; rfl) _ _ (flat_get hp).2
    rw [ea] at c0 c1
    rw [Nat.zero_add]
    exact ⟨c0, c1⟩
theorem isI_one {ps : List (Value × Value)} (h : ∀ p ∈ ps, IsI p) : ∀ u ∈ flat ps, u.oneCell' = true := by
  induction ps with
  | nil => intro u hu; simp [flat] at hu
  | cons p r ih =>
    intro u hu
    obtain ⟨n, a, l, c, e⟩ := h p (by simp)
    simp only [flat, List.mem_cons] at hu
    rw [e] at hu
    rcases hu with rfl | rfl | hu
    · rfl
    · rfl
    · exact ih (fun q hq => h q (by simp [hq])) u hu
/-- Gathered pairs, in memory from block B on that is its own. -/
def OwnP (B : Nat) (w : World) (v : Value) (ps : List (Value × Value)) : Prop := w.ownsRow B 36 2 v ps.length (flat ps)
/-- append of a list of pairs onto gathered ones. -/
theorem wpList_append_pairs (w : World) {ops : Array Oper} {rest : List Oper} {o : Oper} {a : Act} {Q : Exit → Act → World → Prop}
    (hgd : o.guard = none) (s x : Operand) (hop : o.op = .call { callee := .builtin .append, args := #[s, x], argTypes := #[22, 22] })
    (B : Nat) (v u : Value) (ps qs : List (Value × Value)) (hs : a.eval s = v) (hB : OwnP B w v ps) (hx : a.eval x = u) (B' : Nat) (hu : Prs B' w u qs) (hi : ∀ p ∈ qs, IsI p) (hlen : ps.length + qs.length ≤ 1048576) (hBs : B ≤ w.heap.size)
    (hK : ∀ v' w', OwnP B w' v' (ps ++ qs) → Hid (w.grownBy w' v.ownBlock) → wpList Tryz.prog ops Q rest (a.put o.dst v') w') :
    wpList Tryz.prog ops Q (o :: rest) a w := by
  obtain ⟨i, hii, hz, hsz, hby⟩ := info_parts Tryz.infoZ9
  obtain ⟨au, cu, rfl, h2, h3, hn, h4⟩ := hu
  rcases au with _ | ad
  · have e : qs = [] := by
      rcases h4 with h4 | ⟨b, off, q, _⟩
      · exact h4
      · cases q
    subst e
    have := hn rfl
    subst this
    refine wpList_append_own_none hgd s x 22 hop B 36 i 2 Tryz.underlying22 hii v ps.length (flat ps) hs hB hx ?_
    have := hK v w (by simpa using hB) ⟨rfl, rfl, rfl, Nat.le_refl _, fun _ _ _ => rfl⟩
    exact this
  · refine wpList_plain hgd fun K hK' => ?_
    have hnews : ∀ j y, (flat qs)[j]? = some y → w.cell? (ad.add j) = some y := fun j y hj => by
      have hjl := (List.getElem?_eq_some_iff.1 hj).1
      rw [flat_length] at hjl
      rcases h4 with rfl | ⟨b, off, q, _, _, hc⟩
      · simp at hjl
      · obtain rfl : ad = ⟨b, off, none⟩ := by simpa using q
        have ea : ∀ j, (⟨b, off, none⟩ : Addr).add j = ⟨b, off + j, none⟩ := fun j => by unfold Addr.add; split <;> simp_all
        rw [ea]
        have hp : qs[j / 2]? = some (qs[j / 2]'(by omega)) := List.getElem?_eq_getElem (by omega)
        have hf := flat_get hp
        have hq := hc _ _ hp
        rcases Nat.mod_two_eq_zero_or_one j with m | m
        · have e : j / 2 * 2 = j := by omega
          rw [e] at hf hq
          rw [hq.1, ← hf.1, hj]
        · have e : j / 2 * 2 + 1 = j := by omega
          rw [Nat.add_assoc, e] at hq
          rw [e] at hf
          rw [hq.2, ← hf.2, hj]
    obtain ⟨v', w', hr, k1, k2, -, -⟩ := run_append_own_at (P := Tryz.prog) w B 22 o.type 36 i (.agg #[.bool false, .slice none 0 0]) 2 32 Tryz.underlying22 hii hz hsz hby rfl (by omega) v ps.length (flat ps) hB ad qs.length cu (flat qs) (flat_length qs) hnews (isI_one hi) (by unfold maxLen; omega) (by omega) hBs
    unfold Oper.wp execOp
    simp only [hop, resolve, invoke, builtin, Sem.run_bind, Sem.run_pure, Result.andThen_ok, List.map_toArray, List.map_cons, List.map_nil, hs, hx, hr]
    refine hK' _ _ (hK v' w' ?_ k2)
    unfold OwnP
    rw [flat_append, List.length_append]
    exact k1
def Grew (w : World) (e : Ending) (w' : World) : Prop := ∃ v, e = .returned v ∧ w'.ownsRow w.heap.size 36 2 v 0 [] ∧ Below w.heap.size w w'
def Same9 (m : Nat) (pss : List (List (Value × Value))) : Prop := ∀ ps ∈ pss, ps.length = m ∧ ∀ p ∈ ps, IsI p
theorem take_flat {α : Type} {m : Nat} {pss : List (List α)} (h : ∀ ps ∈ pss, ps.length = m) (i : Nat) (hi : i ≤ pss.length) : (pss.take i).flatten.length = i * m := by
  induction i with
  | zero => simp
  | succ i ih =>
    rw [List.take_succ_eq_append_getElem (by omega), List.flatten_append, List.length_append, ih (by omega), List.flatten_cons, List.flatten_nil, List.append_nil, h _ (List.getElem_mem _), Nat.add_mul, Nat.one_mul]
theorem take_flat_succ {α : Type} {pss : List (List α)} {i : Nat} {ps : List α} (h : pss[i]? = some ps) : (pss.take (i + 1)).flatten = (pss.take i).flatten ++ ps := by
  obtain ⟨hi, e⟩ := List.getElem?_eq_some_iff.1 h
  rw [List.take_succ_eq_append_getElem hi, List.flatten_append, e]
  simp
def CatA (w : World) (n m : Nat) (gk : Nat) (s3 s11 : Value) (wx : World) : Prop := ∃ i : Nat, s3 = .int .i64 ((i * m : Nat) : Int) ∧ s11 = .int .i64 (i : Int) ∧ i ≤ n ∧ gk = n - i ∧ wx = w
def CatB (w : World) (n : Nat) (pss : List (List (Value × Value))) (gk : Nat) (s6 s27 : Value) (wx : World) : Prop := ∃ i : Nat, s27 = .int .i64 (i : Int) ∧ i ≤ n ∧ gk = n - i ∧ OwnP w.heap.size wx s6 (pss.take i).flatten ∧ Below w.heap.size w wx
def Catted (w : World) (ps : List (Value × Value)) (e : Ending) (w' : World) : Prop := ∃ v, e = .returned v ∧ Prs w.heap.size w' v ps ∧ Below w.heap.size w w'
theorem grown_below {B : Nat} {w0 w w' : World} {v : Value} {n : Nat} {xs : List Value} (hb : Below w0.heap.size w0 w) (h : w.ownsRow w0.heap.size 36 2 v n xs) (hg : w.grownBy w' v.ownBlock) : Below w0.heap.size w0 w' := by
  refine hb.trans ⟨hg.os, hg.tape, hg.output, hg.size, fun b hb' => hg.block b (Nat.lt_of_lt_of_le hb' hb.size) (fun e => ?_)⟩
  have := (World.ownsRow.lt h b e.symm).1
  omega
/-- The result of a call that answers a matrix. -/
theorem mback {f : Func} {s : Nat} (hr : f.results = #[ResultVar.cell s 24]) {W : World} {b : Nat} {x0 x1 x2 : Value} (h : Cel W b 24 [x0, x1, x2]) (tmps : Array Value) (ht : tmps[s]? = some (.pointer (some ⟨b, 0, none⟩))) :
    (results f tmps).run Tryz.prog W = .ok (.agg #[x0, x1, x2]) W := by
  simp [results, hr, go_sem, ht, h.at (i := 0) rfl, h.at (i := 1) rfl, h.at (i := 2) rfl]
/-- .. and an error. -/
theorem mback1 {f : Func} {s1 s3 : Nat} (hr : f.results = #[ResultVar.cell s1 24, ResultVar.tmp s3]) {W : World} {b : Nat} {x0 x1 x2 e : Value} (h : Cel W b 24 [x0, x1, x2]) (tmps : Array Value) (ht : tmps[s1]? = some (.pointer (some ⟨b, 0, none⟩))) (he : tmps[s3]? = some e) :
    (results f tmps).run Tryz.prog W = .ok (.tuple #[.agg #[x0, x1, x2], e]) W := by
  simp [results, hr, go_sem, ht, he, h.at (i := 0) rfl, h.at (i := 1) rfl, h.at (i := 2) rfl]
abbrev put3 (w : World) (b : Nat) (y0 y1 y2 : Value) : World := ((w.setCell ⟨b, 0, none⟩ y0).setCell ⟨b, 1, none⟩ y1).setCell ⟨b, 2, none⟩ y2
theorem Cel.put3 {w : World} {b : Nat} {T : TypeId} {x0 x1 x2 : Value} (h : Cel w b T [x0, x1, x2]) (y0 y1 y2 : Value) : Cel (put3 w b y0 y1 y2) b T [y0, y1, y2] := ((h.set 0 y0).set 1 y1).set 2 y2
theorem below_put3 {B b : Nat} {w0 w : World} (h : Below B w0 w) (hb : B ≤ b) (y0 y1 y2 : Value) : Below B w0 (Go.Proofs.YtonmlmdnjjafhaaGreat.put3 w b y0 y1 y2) := bset (bset (bset h hb) hb) hb
theorem Prs.put3 {B b : Nat} {w : World} {v : Value} {ps : List (Value × Value)} (h : Prs B w v ps) (hb : b < B) (y0 y1 y2 : Value) : Prs B (Go.Proofs.YtonmlmdnjjafhaaGreat.put3 w b y0 y1 y2) v ps := ((h.off hb).off hb).off hb
/-- The zero matrix' box holds no word. -/
def NoWs (L : List Value) : Prop := ∀ u ∈ L, NoW u
theorem noWs_mat (r c : Int) (a : Option Addr) (l n : Nat) : NoWs [.int .i64 r, .int .i64 c, .slice a l n] := by
  intro u hu x e
  simp at hu
  rcases hu with rfl | rfl | rfl <;> simp at e
theorem Cel.wk3 {w : World} {b : Nat} {T : TypeId} {r c : Int} {a : Option Addr} {l n : Nat} (h : Cel w b T [.int .i64 r, .int .i64 c, .slice a l n]) (y0 y1 y2 : Value) : Wk w (Go.Proofs.YtonmlmdnjjafhaaGreat.put3 w b y0 y1 y2) := by
  have q := noWs_mat r c a l n
  exact ((h.wk (i := 0) rfl (q _ (by simp)) y0).trans ((h.set 0 y0).wk (i := 1) rfl (q _ (by simp)) y1)).trans (((h.set 0 y0).set 1 y1).wk (i := 2) rfl (q _ (by simp)) y2)
end Go.Proofs.YtonmlmdnjjafhaaGreat

/- Each9 -/
namespace Go.Proofs.YtonmlmdnjjafhaaGreat
open Go.RowKit
set_option linter.unusedVariables false

abbrev mbox : Obj := .cells #[.int .i64 0, .int .i64 0, .slice none 0 0] 24
def Matted (w : World) (r c : Nat) (ps : List (Value × Value)) (e : Ending) (w' : World) : Prop := ∃ at_, e = .returned (matv r c at_) ∧ Prs w.heap.size w' at_ ps ∧ Below w.heap.size w w'
theorem mbox_new {w W0 : World} (hW : w.alloc mbox = W0) : Cel W0 w.heap.size 24 [.int .i64 0, .int .i64 0, .slice none 0 0] := by rw [← hW]; exact Cel.new w _ _
end Go.Proofs.YtonmlmdnjjafhaaGreat

/- DotsA9 -/
namespace Go.Proofs.YtonmlmdnjjafhaaGreat
open Go.RowKit
set_option linter.unusedVariables false

def EachH (w : World) (g n : Nat) (F : Nat → Int) (k gk : Nat) (s : Value) (wx : World) : Prop :=
  ∃ i : Nat, s = .int .i64 (i : Int) ∧ i ≤ n ∧ gk = n - i ∧ Fil wx g n i F k ∧ Below w.heap.size w wx
def Listed (w : World) (zs : List Int) (k : Nat) (e : Ending) (w' : World) : Prop := ∃ u ps, e = .returned u ∧ Prs w.heap.size w' u ps ∧ Zcs w' ps zs k ∧ Below w.heap.size w w'
/-- A list of lists of integers. -/
def Ziss (w : World) (pss : List (List (Value × Value))) (zss : List (List Int)) (k : Nat) : Prop := pss.length = zss.length ∧ ∀ (j : Nat) (ps : List (Value × Value)), pss[j]? = some ps → Zis w ps (zss.getD j []) k
theorem Ziss.now {w w' : World} {pss : List (List (Value × Value))} {zss : List (List Int)} {k : Nat} (h : Ziss w pss zss k) (hb : Below w.heap.size w w') : Ziss w' pss zss k := ⟨h.1, fun j ps hp => (h.2 j ps hp).now hb⟩
end Go.Proofs.YtonmlmdnjjafhaaGreat

/- ColsP9 -/
namespace Go.Proofs.YtonmlmdnjjafhaaGreat
open Go.RowKit
set_option linter.unusedVariables false

theorem step_append_pair (w : World) {ops : Array Oper} {o : Oper} {a : Act} {K : Act → World → Prop} {Q : Exit → Act → World → Prop} {E : Prop}
    (hgd : o.guard = none) (s x : Operand) (hop : o.op = .call { callee := .builtin .append, args := #[s, x], argTypes := #[22, 22] })
    (B : Nat) (v : Value) (ps : List (Value × Value)) (hs : a.eval s = v) (hB : OwnP B w v ps) (g : Nat) (x0 x1 : Value) (hx : a.eval x = .slice (some ⟨g, 0, none⟩) 1 1) (hc0 : w.cell? ⟨g, 0, none⟩ = some x0) (hc1 : w.cell? ⟨g, 1, none⟩ = some x1) (hi : IsI (x0, x1)) (hlen : ps.length ≤ 1048576) (hBs : B ≤ w.heap.size)
    (hK : ∀ g' l' cap' w', l' = ps.length + 1 → Hid (OwnP B w' (.slice (some ⟨g', 0, none⟩) l' cap') (ps ++ [(x0, x1)])) → Hid (w.grownBy w' v.ownBlock) → Hid (v.ownBlock = some g' ∨ g' = w.heap.size) → K (a.put o.dst (.slice (some ⟨g', 0, none⟩) l' cap')) w') :
    if Region.wanted o (yielded ops a.tmps) = true then Oper.wp Tryz.prog o a w K Q else E := by
  obtain ⟨i, hii, hz, hsz, hby⟩ := info_parts Tryz.infoZ9
  have ea : ∀ j, (⟨g, 0, none⟩ : Addr).add j = ⟨g, j, none⟩ := fun j => by unfold Addr.add; split <;> simp_all
  refine step_append_lies w hgd s x 22 hop B 36 i (.agg #[.bool false, .slice none 0 0]) 2 32 Tryz.underlying22 hii hz hsz hby rfl (by omega) v ps.length (flat ps) hs hB ⟨g, 0, none⟩ 1 1 [x0, x1] hx rfl ?_ ?_ (by omega) (by unfold maxLen; omega) (by omega) hBs w.heap.size rfl ?_
  · intro j u' hj
    match j, hj with
    | 0, hj => simp at hj; subst hj; rw [ea]; exact hc0
    | 1, hj => simp at hj; subst hj; rw [ea]; exact hc1
  · obtain ⟨n, b, l, c, e⟩ := hi
    simp only [Prod.mk.injEq] at e
    obtain ⟨rfl, rfl⟩ := e
    intro u' hu'
    simp at hu'
    rcases hu' with rfl | rfl <;> rfl
  · intro g' cap' w' k1 k2 k3 k4
    refine hK g' _ cap' w' rfl ?_ k2 k3
    unfold Hid OwnP
    rw [flat_append, List.length_append]
    exact k1
/-- How long column jj is when i rows are through, and j places of the next. -/
def clen (i j jj : Nat) : Nat := if jj < j then i + 1 else i
def colL {α : Type} (c : Nat) (ps : List α) (z : α) (n j : Nat) : List α := (List.range n).map fun t => ps.getD (t * c + j) z
/-- All that lay below N, but for the block g, is as it was. -/
structure Kp (N g : Nat) (w wx : World) : Prop where
  os : wx.os = w.os
  tape : wx.tape = w.tape
  output : wx.output = w.output
  size : w.heap.size ≤ wx.heap.size
  block : ∀ b, b < N → b ≠ g → wx.heap[b]? = w.heap[b]?
theorem Kp.refl (N g : Nat) (w : World) : Kp N g w w := ⟨rfl, rfl, rfl, Nat.le_refl _, fun _ _ _ => rfl⟩
theorem Kp.step {g : Nat} {w wx wy : World} (h : Kp w.heap.size g w wx) (hb : Below wx.heap.size wx wy) : Kp w.heap.size g w wy :=
  ⟨hb.os.trans h.os, hb.tape.trans h.tape, hb.output.trans h.output, Nat.le_trans h.size hb.size, fun b hlt hne => (hb.block b (Nat.lt_of_lt_of_le hlt h.size)).trans (h.block b hlt hne)⟩
theorem Kp.below {g : Nat} {w0 w wx : World} (h : Kp w.heap.size g w wx) (hb : Below w0.heap.size w0 w) (hg : w0.heap.size ≤ g) : Below w0.heap.size w0 wx :=
  ⟨h.os.trans hb.os, h.tape.trans hb.tape, h.output.trans hb.output, Nat.le_trans hb.size h.size, fun b hlt => (h.block b (Nat.lt_of_lt_of_le hlt hb.size) (by omega)).trans (hb.block b hlt)⟩
theorem Kp.cell {g b i : Nat} {w wx : World} {v : Value} (h : Kp w.heap.size g w wx) (hb : b ≠ g) (hc : w.cell? ⟨b, i, none⟩ = some v) : wx.cell? ⟨b, i, none⟩ = some v :=
  (World.cell?_of_block (h.block b (World.block_lt_of_cell? w _ hc) hb)).trans hc
structure ColsI (w wx : World) (g c i j : Nat) (ps : List (Value × Value)) (vs : List Value) : Prop where
  row : RowL9 wx g vs
  len : vs.length = c
  own : ∀ (jj : Nat) (u : Value), vs[jj]? = some u → OwnP w.heap.size wx u (colL c ps zpair (clen i j jj) jj)
  apart : ∀ (jj kk : Nat) (u u' : Value) (b : Nat), vs[jj]? = some u → vs[kk]? = some u' → jj ≠ kk → u.ownBlock = some b → u'.ownBlock ≠ some b
  off : ∀ (jj : Nat) (u : Value), vs[jj]? = some u → u.ownBlock ≠ some g
  kp : Kp w.heap.size g w wx
theorem OwnP.keep {B : Nat} {w w' : World} {v : Value} {ps : List (Value × Value)} (h : OwnP B w v ps) (hk : ∀ b, v.ownBlock = some b → b < w.heap.size → w'.heap[b]? = w.heap[b]?) : OwnP B w' v ps := owns_keep h hk
theorem ColsI.step {w wx wy : World} {g c i j : Nat} {ps : List (Value × Value)} {vs : List Value} (h : ColsI w wx g c i j ps vs) (hb : Below wx.heap.size wx wy) : ColsI w wy g c i j ps vs :=
  ⟨h.row.step hb, h.len, fun jj u hu => (h.own jj u hu).keep (fun b _ hlt => hb.block b hlt), h.apart, h.off, h.kp.step hb⟩
theorem colL_succ {α : Type} {c : Nat} {ps : List α} {z : α} {n j : Nat} : colL c ps z (n + 1) j = colL c ps z n j ++ [ps.getD (n * c + j) z] := by simp [colL, List.range_succ]
theorem colL_length {α : Type} {c : Nat} {ps : List α} {z : α} {n j : Nat} : (colL c ps z n j).length = n := by simp [colL]
/-- One place more. -/
theorem ColsI.next {w wx wy : World} {g c i j l' g' cap' : Nat} {ps : List (Value × Value)} {vs : List Value} {u : Value} (h : ColsI w wx g c i j ps vs) (hj : j < c) (hu : vs[j]? = some u)
    (ho : OwnP w.heap.size wy (.slice (some ⟨g', 0, none⟩) l' cap') (colL c ps zpair i j ++ [ps.getD (i * c + j) zpair])) (hg : wx.grownBy wy u.ownBlock) (hw : u.ownBlock = some g' ∨ g' = wx.heap.size) :
    ColsI w (wy.setCell ⟨g, j, none⟩ (.slice (some ⟨g', 0, none⟩) l' cap')) g c i (j + 1) ps (vs.set j (.slice (some ⟨g', 0, none⟩) l' cap')) := by
  have hgb : g < wx.heap.size := h.row.blk
  have hgg : g' ≠ g := by
    rcases hw with q | q
    · intro e
      subst e
      exact h.off j u hu q
    · omega
  have hset : ∀ b, b ≠ g → (wy.setCell ⟨g, j, none⟩ (.slice (some ⟨g', 0, none⟩) l' cap')).heap[b]? = wy.heap[b]? := fun b hb => Below.heap_setCell wy _ _ b (fun e => hb (by simpa using e))
  have hrow : RowL9 wy g vs := (hg.block g hgb (fun e => h.off j u hu e.symm)).trans h.row
  refine ⟨hrow.set j _, by simpa using h.len, fun jj x hx => ?_, fun jj kk x y b hx hy hne hb => ?_, fun jj x hx => ?_, ?_⟩
  · by_cases q : jj = j
    · subst q
      rw [List.getElem?_set_self (by rw [h.len]; exact hj), Option.some.injEq] at hx
      subst hx
      rw [show clen i (jj + 1) jj = i + 1 by simp [clen], colL_succ]
      exact ho.keep (fun b hb _ => hset b (fun e => hgg (by simp [Value.ownBlock] at hb; omega)))
    · rw [List.getElem?_set_ne (by omega)] at hx
      have e : clen i (j + 1) jj = clen i j jj := by unfold clen; split <;> split <;> omega
      rw [e]
      refine (h.own jj x hx).keep (fun b hb hlt => ?_)
      rw [hset b (fun e => h.off jj x hx (by rw [hb, e]))]
      exact hg.block b hlt (fun e => h.apart jj j x u b hx hu q hb e.symm)
  · have blt : ∀ {n : Nat} {z : Value}, vs[n]? = some z → z.ownBlock = some b → b < wx.heap.size := fun hz hb => (World.ownsRow.lt (h.own _ _ hz) b hb).2
    by_cases q : jj = j
    · subst q
      rw [List.getElem?_set_self (by rw [h.len]; exact hj), Option.some.injEq] at hx
      rw [List.getElem?_set_ne (by omega)] at hy
      subst hx
      simp only [Value.ownBlock, Option.some.injEq] at hb
      subst hb
      intro e
      rcases hw with q | q
      · exact h.apart jj kk u y g' hu hy hne q e
      · have := blt hy e
        omega
    · rw [List.getElem?_set_ne (by omega)] at hx
      by_cases q2 : kk = j
      · subst q2
        rw [List.getElem?_set_self (by rw [h.len]; exact hj), Option.some.injEq] at hy
        subst hy
        simp only [Value.ownBlock, ne_eq, Option.some.injEq]
        intro e
        subst e
        rcases hw with q3 | q3
        · exact h.apart jj kk x u g' hx hu q hb q3
        · have := blt hx hb
          omega
      · rw [List.getElem?_set_ne (by omega)] at hy
        exact h.apart jj kk x y b hx hy hne hb
  · by_cases q : jj = j
    · subst q
      rw [List.getElem?_set_self (by rw [h.len]; exact hj), Option.some.injEq] at hx
      subst hx
      simp only [Value.ownBlock, ne_eq, Option.some.injEq]
      exact hgg
    · rw [List.getElem?_set_ne (by omega)] at hx
      exact h.off jj x hx
  · have e : ∀ _ : Nat, (wy.setCell ⟨g, j, none⟩ (.slice (some ⟨g', 0, none⟩) l' cap')).heap.size = wy.heap.size := fun _ => by simp
    refine ⟨hg.os.trans h.kp.os, hg.tape.trans h.kp.tape, hg.output.trans h.kp.output, by rw [e 0]; exact Nat.le_trans h.kp.size hg.size, fun b hlt hne => ?_⟩
    rw [hset b hne, hg.block b (Nat.lt_of_lt_of_le hlt h.kp.size) (fun e => ?_)]
    · exact h.kp.block b hlt hne
    · have := (World.ownsRow.lt (h.own j u hu) b e.symm).1
      omega
theorem ColsI.row_end {w wx : World} {g c i : Nat} {ps : List (Value × Value)} {vs : List Value} (h : ColsI w wx g c i c ps vs) : ColsI w wx g c (i + 1) 0 ps vs := by
  refine ⟨h.row, h.len, fun jj u hu => ?_, h.apart, h.off, h.kp⟩
  have hj : jj < c := by rw [← h.len]; exact (List.getElem?_eq_some_iff.1 hu).1
  have e : clen (i + 1) 0 jj = clen i c jj := by simp [clen, hj]
  rw [e]
  exact h.own jj u hu
theorem ColsI.start {w wx : World} {g c : Nat} (ps : List (Value × Value)) (h : RowL9 wx g (List.replicate c (.slice none 0 0))) (hb : Kp w.heap.size g w wx) : ColsI w wx g c 0 0 ps (List.replicate c (.slice none 0 0)) := by
  have key : ∀ (jj : Nat) (u : Value), (List.replicate c (Value.slice none 0 0))[jj]? = some u → u = .slice none 0 0 := fun jj u hu => List.eq_of_mem_replicate (List.mem_of_getElem? hu)
  refine ⟨h, by simp, fun jj u hu => ?_, fun jj kk u u' b hu _ _ hb => ?_, fun jj u hu => ?_, hb⟩
  · rw [key jj u hu]
    simpa [clen, colL, OwnP, flat] using World.ownsRow_nil wx w.heap.size 36 2
  · rw [key jj u hu] at hb; cases hb
  · rw [key jj u hu]; simp [Value.ownBlock]
def colsL {α : Type} (r c : Nat) (ps : List α) (z : α) : List (List α) := (List.range c).map (colL c ps z r)
theorem ColsI.done {w wx : World} {g c r : Nat} {ps : List (Value × Value)} {vs : List Value} (h : ColsI w wx g c r 0 ps vs) (hc : c ≤ 64) (hr : r ≤ 64) : Prr w.heap.size wx (.slice (some ⟨g, 0, none⟩) c c) (colsL r c ps zpair) := by
  refine ⟨some ⟨g, 0, none⟩, c, by simp [colsL], by simp [colsL], by simp [colsL]; omega, .inr ⟨g, 0, rfl, h.row.blk, fun j qs hq => ?_⟩⟩
  have hj : j < c := by simpa [colsL] using (List.getElem?_eq_some_iff.1 hq).1
  have hv : vs[j]? = some (vs[j]'(by rw [h.len]; exact hj)) := List.getElem?_eq_getElem (by rw [h.len]; exact hj)
  refine ⟨_, by rw [Nat.zero_add]; exact h.row.at hv, ?_⟩
  have e : qs = colL c ps zpair r j := by
    simp [colsL, hj] at hq
    exact hq.symm
  rw [e]
  have := h.own j _ hv
  rw [show clen r 0 j = r by simp [clen]] at this
  exact owns_prs this (by rw [colL_length]; omega)
end Go.Proofs.YtonmlmdnjjafhaaGreat
