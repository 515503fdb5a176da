/-
  QDot9ToDotsA9: Dot9, Rows9, RowsOf9, Cat9, Each9, DotsA9, joined.
-/
import Derived.Test.YtiedmlfiboalhaaGreatQLst9ToTail
import Derived.Lib.AppendZeros
import Derived.Laws.AppendOwnNone

/- Dot9 -/
namespace Go.Proofs.YtiedmlfiboalhaaGreat
open Go.RowKit
set_option linter.unusedVariables false

theorem cnow {w w' : World} {p : Addr} {v : Value} (h : Below w.heap.size w w') (k : w.cell? p = some v) : w'.cell? p = some v := (h.cell (World.block_lt_of_cell? w p k)).trans k
end Go.Proofs.YtiedmlfiboalhaaGreat

/- Rows9 -/
namespace Go.Proofs.YtiedmlfiboalhaaGreat
open Go.RowKit
set_option linter.unusedVariables false

/-- A list of lists of pairs; the inner ones lie from block B on. -/
def Prr (B : Nat) (w : World) (v : Value) (pss : List (List (Value × Value))) : Prop :=
  ∃ a c, v = .slice a pss.length c ∧ pss.length ≤ c ∧ pss.length ≤ 1048576 ∧ (pss = [] ∨ ∃ b off, a = some ⟨b, off, none⟩ ∧ b < w.heap.size ∧ ∀ (j : Nat) (ps : List (Value × Value)), pss[j]? = some ps → ∃ u, w.cell? ⟨b, off + j, none⟩ = some u ∧ Prs B w u ps)
theorem Prr.now {B : Nat} {w w' : World} {v : Value} {pss : List (List (Value × Value))} (h : Prr B w v pss) (hb : Below w.heap.size w w') : Prr B w' v pss := by
  obtain ⟨a, c, h1, h2, h3, h4⟩ := h
  refine ⟨a, c, h1, h2, h3, ?_⟩
  rcases h4 with h4 | ⟨b, off, h5, h6, h7⟩
  · exact .inl h4
  · refine .inr ⟨b, off, h5, Nat.lt_of_lt_of_le h6 hb.size, fun j ps hp => ?_⟩
    obtain ⟨u, q1, q2⟩ := h7 j ps hp
    exact ⟨u, (hb.cell (p := ⟨b, off + j, none⟩) h6).trans q1, q2.now hb⟩
theorem Prr.form {B : Nat} {w : World} {v : Value} {pss : List (List (Value × Value))} (h : Prr B w v pss) : ∃ a c, v = .slice a pss.length c ∧ pss.length ≤ c ∧ pss.length ≤ 1048576 ∧ (pss ≠ [] → ∃ b off, a = some ⟨b, off, none⟩) := by
  obtain ⟨a, c, h1, h2, h3, h4⟩ := h
  refine ⟨a, c, h1, h2, h3, fun hne => ?_⟩
  rcases h4 with h4 | ⟨b, off, h5, h6, h7⟩
  · exact absurd h4 hne
  · exact ⟨b, off, h5⟩
theorem Prr.at {B : Nat} {w : World} {b off l c : Nat} {pss : List (List (Value × Value))} (h : Prr B w (.slice (some ⟨b, off, none⟩) l c) pss) {i : Nat} {ps : List (Value × Value)} (hi : pss[i]? = some ps) : ∃ u, w.cell? ⟨b, off + i, none⟩ = some u ∧ Prs B w u ps := by
  obtain ⟨a', c', h1, h2, h3, h4⟩ := h
  rcases h4 with h4 | ⟨b', off', h5, h6, h7⟩
  · subst h4; simp at hi
  · simp only [Value.slice.injEq] at h1
    obtain ⟨rfl, -, -⟩ := h1
    simp only [Option.some.injEq, Addr.mk.injEq, and_true] at h5
    obtain ⟨rfl, rfl⟩ := h5
    exact h7 i ps hi
theorem Prr.mono {B B' : Nat} {w : World} {v : Value} {pss : List (List (Value × Value))} (h : Prr B w v pss) (hB : B' ≤ B) : Prr B' w v pss := by
  obtain ⟨a, c, h1, h2, h3, h4⟩ := h
  refine ⟨a, c, h1, h2, h3, ?_⟩
  rcases h4 with h4 | ⟨b, off, h5, h6, h7⟩
  · exact .inl h4
  · refine .inr ⟨b, off, h5, h6, fun j ps hp => ?_⟩
    obtain ⟨u, q1, q2⟩ := h7 j ps hp
    exact ⟨u, q1, q2.mono hB⟩
/-- A row of slices that a loop fills. -/
def FilR (wx : World) (g n i : Nat) (P : Nat → Value → Prop) : Prop := ∃ vs, RowL9 wx g vs ∧ vs.length = n ∧ (∀ u ∈ vs, NoW u) ∧ ∀ (j : Nat) (u : Value), j < i → vs[j]? = some u → P j u
theorem FilR.start {w : World} {g n : Nat} (h : RowL9 w g (List.replicate n (.slice none 0 0))) (P : Nat → Value → Prop) : FilR w g n 0 P := ⟨_, h, by simp, (fun u hu => by rw [List.eq_of_mem_replicate hu]; exact noS _ _ _), fun j u hj => by omega⟩
theorem FilR.step {w w' : World} {g n i : Nat} {P P' : Nat → Value → Prop} (h : FilR w g n i P) (hb : Below w.heap.size w w') (hP : ∀ j u, j < i → P j u → P' j u) : FilR w' g n i P' := by
  obtain ⟨vs, h1, h2, hw, h3⟩ := h
  exact ⟨vs, h1.step hb, h2, hw, fun j u hj hu => hP j u hj (h3 j u hj hu)⟩
theorem FilR.put {w : World} {g n i : Nat} {P P' : Nat → Value → Prop} {x : Value} (h : FilR w g n i P) (hi : i < n) (hP : ∀ j u, j < i → P j u → P' j u) (hx : P' i x) (hn : NoW x) : FilR (w.setCell ⟨g, i, none⟩ x) g n (i + 1) P' := by
  obtain ⟨vs, h1, h2, hw, h3⟩ := h
  refine ⟨vs.set i x, h1.set i x, by simpa using h2, (fun u hu => by
    rcases List.mem_or_eq_of_mem_set hu with q | rfl
    · exact hw u q
    · exact hn), fun j u hj hu => ?_⟩
  by_cases q : j = i
  · subst q
    rw [List.getElem?_set_self (by omega), Option.some.injEq] at hu
    subst hu
    exact hx
  · rw [List.getElem?_set_ne (by omega)] at hu
    exact hP j u (by omega) (h3 j u (by omega) hu)
theorem FilR.blk {w : World} {g n i : Nat} {P : Nat → Value → Prop} (h : FilR w g n i P) : g < w.heap.size := by
  obtain ⟨vs, h1, h2, hw, h3⟩ := h
  exact h1.blk
theorem FilR.wk {w : World} {g n i j : Nat} {P : Nat → Value → Prop} (h : FilR w g n i P) (hj : j < n) (x : Value) : Wk w (w.setCell ⟨g, j, none⟩ x) := by
  obtain ⟨vs, h1, h2, hw, h3⟩ := h
  exact h1.wk (List.getElem?_eq_getElem (by omega)) (hw _ (List.getElem_mem (l := vs) (n := j) (by omega))) x
theorem FilR.cells {w : World} {g n i j : Nat} {P : Nat → Value → Prop} (h : FilR w g n i P) (hj : j < n) : ∃ u, w.cell? ⟨g, j, none⟩ = some u ∧ w.frozen? ⟨g, j, none⟩ = false := by
  obtain ⟨vs, h1, h2, hw, h3⟩ := h
  exact ⟨vs[j]'(by omega), h1.at (List.getElem?_eq_getElem (by omega)), h1.fz _⟩
theorem FilR.done {w : World} {g n B : Nat} {pss : List (List (Value × Value))} {P : Nat → Value → Prop} (h : FilR w g n n P) (hn : n ≤ 1048576) (hl : pss.length = n) (hP : ∀ j u ps, P j u → pss[j]? = some ps → Prs B w u ps) : Prr B w (.slice (some ⟨g, 0, none⟩) n n) pss := by
  obtain ⟨vs, h1, h2, hw, h3⟩ := h
  refine ⟨_, _, by rw [hl], by omega, by omega, .inr ⟨g, 0, rfl, h1.blk, fun j ps hp => ?_⟩⟩
  have hj : j < n := by have := (List.getElem?_eq_some_iff.1 hp).1; omega
  have hv : vs[j]? = some (vs[j]'(by omega)) := List.getElem?_eq_getElem (by omega)
  refine ⟨_, ?_, hP j _ ps (h3 j _ hj hv) hp⟩
  rw [Nat.zero_add]
  exact h1.at hv

theorem slice_mid (w : World) (b off n c lo hi : Nat) (h : lo ≤ hi) (h1 : hi ≤ c) (h2 : lo < c) : (Instr.slice 22 (.slice (some ⟨b, off, none⟩) n c) (some (.int .i64 (lo : Int))) (some (.int .i64 (hi : Int))) none).run Tryz.prog w = .ok (.slice (some ⟨b, off + 2 * lo, none⟩) (hi - lo) (c - lo)) w := by
  have i3 : (lo : Int) ≤ (hi : Int) := by omega
  have i1 : (0 : Int) ≤ (lo : Int) := by omega
  have i2 : (0 : Int) ≤ (hi : Int) := by omega
  have i5 : (hi : Int) ≤ (c : Int) := by omega
  have i4 : ¬ c = lo := by omega
  go_simp
theorem slice_zero (w : World) (a : Option Addr) (c : Nat) : (Instr.slice 22 (.slice a 0 c) (some (.int .i64 (0 : Int))) (some (.int .i64 (0 : Int))) none).run Tryz.prog w = .ok (.slice a 0 c) w := by
  have i5 : (0 : Int) ≤ (c : Int) := by omega
  rcases a with _ | ⟨b, off, sp⟩
  · go_simp
  · by_cases q : c = 0
    · subst q; go_simp
    · go_simp
end Go.Proofs.YtiedmlfiboalhaaGreat

/- RowsOf9 -/
namespace Go.Proofs.YtiedmlfiboalhaaGreat
open Go.RowKit
set_option linter.unusedVariables false

def rowsL {α : Type} (r c : Nat) (ps : List α) : List (List α) := (List.range r).map fun i => (ps.drop (i * c)).take c
theorem rowsL_at {α : Type} {r c i : Nat} {ps : List α} (h : i < r) : (rowsL r c ps)[i]? = some ((ps.drop (i * c)).take c) := by simp [rowsL, h]
/-- The value of a matrix. -/
abbrev matv (r c : Nat) (at_ : Value) : Value := .agg #[.int .i64 (r : Int), .int .i64 (c : Int), at_]
abbrev matc (r c : Nat) (at_ : Value) : List Value := [.int .i64 (r : Int), .int .i64 (c : Int), at_]
/-- A piece, as rowsOf cuts it. -/
theorem cut_row {B : Nat} {w : World} {a : Option Addr} {n cap r c i : Nat} {ps : List (Value × Value)} (h : Prs B w (.slice a n cap) ps) (hl : ps.length = r * c) (hi : i < r) :
    ∃ a' cap', (∀ wx, (Instr.slice 22 (.slice a n cap) (some (.int .i64 ((i * c : Nat) : Int))) (some (.int .i64 (((i + 1) * c : Nat) : Int))) none).run Tryz.prog wx = .ok (.slice a' c cap') wx) ∧ Prs B w (.slice a' c cap') ((ps.drop (i * c)).take c) := by
  have h0 := h
  obtain ⟨a', c', h1, h2, h3, -, h4⟩ := h
  simp only [Value.slice.injEq] at h1
  obtain ⟨rfl, rfl, rfl⟩ := h1
  by_cases hc : c = 0
  · subst hc
    have e0 : ps = [] := List.eq_nil_of_length_eq_zero (by simpa using hl)
    subst e0
    refine ⟨a, cap, fun wx => ?_, ?_⟩
    · simpa using slice_zero wx a cap
    · simpa using h0
  · rcases h4 with rfl | ⟨b, off, rfl, h5', h6, h7⟩
    · rcases Nat.mul_eq_zero.1 (show r * c = 0 by simpa using hl.symm) with q | q <;> omega
    · have e1 : (i + 1) * c ≤ r * c := Nat.mul_le_mul_right c hi
      have e2 : (i + 1) * c = i * c + c := by rw [Nat.add_mul, Nat.one_mul]
      refine ⟨some ⟨b, off + i * c * 2, none⟩, cap - i * c, fun wx => ?_, h0.piece (by omega)⟩
      have := slice_mid wx b off ps.length cap (i * c) ((i + 1) * c) (by omega) (by omega) (by omega)
      rw [show (i + 1) * c - i * c = c by omega, Nat.mul_comm 2] at this
      exact this
theorem wrapM9 {i c : Nat} (hi : i ≤ 64) (hc : c ≤ 64) : IntKind.i64.wrap ((i : Int) * (c : Int)) = ((i * c : Nat) : Int) := by
  have h : i * c ≤ 64 * 64 := Nat.mul_le_mul hi hc
  rw [show (i : Int) * (c : Int) = ((i * c : Nat) : Int) by simp]
  rw [wrap_is] <;> omega
end Go.Proofs.YtiedmlfiboalhaaGreat

/- Cat9 -/
namespace Go.Proofs.YtiedmlfiboalhaaGreat
open Go.RowKit
set_option linter.unusedVariables false

theorem owns_keep {w w' : World} {base : Nat} {e : TypeId} {size : Nat} {v : Value} {n : Nat} {xs : List Value} (h : w.ownsRow base e size v n xs) (hk : ∀ b, v.ownBlock = some b → b < w.heap.size → w'.heap[b]? = w.heap[b]?) : w'.ownsRow base e size v n xs := by
  obtain ⟨q1, q2 | ⟨g, cap, cur, q2, q3, q4, q5⟩⟩ := h
  · exact ⟨q1, .inl q2⟩
  · exact ⟨q1, .inr ⟨g, cap, cur, q2, q3, (hk g (by rw [q2]; rfl) (Array.getElem?_eq_some_iff.1 q4).1).trans q4, q5⟩⟩
/-- Gathered pairs as a list. -/
theorem owns_prs {w : World} {B : Nat} {v : Value} {ps : List (Value × Value)} (h : w.ownsRow B 43 2 v ps.length (flat ps)) (hl : ps.length ≤ 1048576) : Prs B w v ps := by
  have h1' := h
  obtain ⟨q1, ⟨q2, q3⟩ | ⟨g, cap, cur, q2, q3, q4, q5, q6⟩⟩ := h
  · rw [q2]
    have : ps = [] := List.eq_nil_of_length_eq_zero q3
    subst this
    exact Prs.nil _ _
  · refine ⟨_, cap, q2, q5, hl, (fun q => by cases q), .inr ⟨g, 0, rfl, q3, (Array.getElem?_eq_some_iff.1 q4).1, fun j p hp => ?_⟩⟩
    have ea : ∀ j, (⟨g, 0, none⟩ : Addr).add j = ⟨g, j, none⟩ := fun j => by unfold Addr.add; split <;> simp_all
    have c0 := World.ownsRow.cells h1' (g := g) (by rw [q2]; rfl) _ _ (flat_get hp).1
    have c1 := World.ownsRow.cells h1' (g := g) (by rw [q2]; rfl) _ _ (flat_get hp).2
    rw [ea] at c0 c1
    rw [Nat.zero_add]
    exact ⟨c0, c1⟩
/-- Gathered pairs, in memory from block B on that is its own. -/
def OwnP (B : Nat) (w : World) (v : Value) (ps : List (Value × Value)) : Prop := w.ownsRow B 43 2 v ps.length (flat ps)
theorem take_flat {α : Type} {m : Nat} {pss : List (List α)} (h : ∀ ps ∈ pss, ps.length = m) (i : Nat) (hi : i ≤ pss.length) : (pss.take i).flatten.length = i * m := by
  induction i with
  | zero => simp
  | succ i ih =>
    rw [List.take_succ_eq_append_getElem (by omega), List.flatten_append, List.length_append, ih (by omega), List.flatten_cons, List.flatten_nil, List.append_nil, h _ (List.getElem_mem _), Nat.add_mul, Nat.one_mul]
theorem take_flat_succ {α : Type} {pss : List (List α)} {i : Nat} {ps : List α} (h : pss[i]? = some ps) : (pss.take (i + 1)).flatten = (pss.take i).flatten ++ ps := by
  obtain ⟨hi, e⟩ := List.getElem?_eq_some_iff.1 h
  rw [List.take_succ_eq_append_getElem hi, List.flatten_append, e]
  simp
def CatA (w : World) (n m : Nat) (gk : Nat) (s3 s11 : Value) (wx : World) : Prop := ∃ i : Nat, s3 = .int .i64 ((i * m : Nat) : Int) ∧ s11 = .int .i64 (i : Int) ∧ i ≤ n ∧ gk = n - i ∧ wx = w
/-- The result of a call that answers a matrix. -/
theorem mback {f : Func} {s : Nat} (hr : f.results = #[ResultVar.cell s 24]) {W : World} {b : Nat} {x0 x1 x2 : Value} (h : Cel W b 24 [x0, x1, x2]) (tmps : Array Value) (ht : tmps[s]? = some (.pointer (some ⟨b, 0, none⟩))) :
    (results f tmps).run Tryz.prog W = .ok (.agg #[x0, x1, x2]) W := by
  simp [results, hr, go_sem, ht, h.at (i := 0) rfl, h.at (i := 1) rfl, h.at (i := 2) rfl]
/-- .. and an error. -/
theorem mback1 {f : Func} {s1 s3 : Nat} (hr : f.results = #[ResultVar.cell s1 24, ResultVar.tmp s3]) {W : World} {b : Nat} {x0 x1 x2 e : Value} (h : Cel W b 24 [x0, x1, x2]) (tmps : Array Value) (ht : tmps[s1]? = some (.pointer (some ⟨b, 0, none⟩))) (he : tmps[s3]? = some e) :
    (results f tmps).run Tryz.prog W = .ok (.tuple #[.agg #[x0, x1, x2], e]) W := by
  simp [results, hr, go_sem, ht, he, h.at (i := 0) rfl, h.at (i := 1) rfl, h.at (i := 2) rfl]
abbrev put3 (w : World) (b : Nat) (y0 y1 y2 : Value) : World := ((w.setCell ⟨b, 0, none⟩ y0).setCell ⟨b, 1, none⟩ y1).setCell ⟨b, 2, none⟩ y2
theorem Cel.put3 {w : World} {b : Nat} {T : TypeId} {x0 x1 x2 : Value} (h : Cel w b T [x0, x1, x2]) (y0 y1 y2 : Value) : Cel (put3 w b y0 y1 y2) b T [y0, y1, y2] := ((h.set 0 y0).set 1 y1).set 2 y2
theorem below_put3 {B b : Nat} {w0 w : World} (h : Below B w0 w) (hb : B ≤ b) (y0 y1 y2 : Value) : Below B w0 (Go.Proofs.YtiedmlfiboalhaaGreat.put3 w b y0 y1 y2) := bset (bset (bset h hb) hb) hb
theorem Prs.put3 {B b : Nat} {w : World} {v : Value} {ps : List (Value × Value)} (h : Prs B w v ps) (hb : b < B) (y0 y1 y2 : Value) : Prs B (Go.Proofs.YtiedmlfiboalhaaGreat.put3 w b y0 y1 y2) v ps := ((h.off hb).off hb).off hb
/-- The zero matrix' box holds no word. -/
def NoWs (L : List Value) : Prop := ∀ u ∈ L, NoW u
theorem noWs_mat (r c : Int) (a : Option Addr) (l n : Nat) : NoWs [.int .i64 r, .int .i64 c, .slice a l n] := by
  intro u hu x e
  simp at hu
  rcases hu with rfl | rfl | rfl <;> simp at e
theorem Cel.wk3 {w : World} {b : Nat} {T : TypeId} {r c : Int} {a : Option Addr} {l n : Nat} (h : Cel w b T [.int .i64 r, .int .i64 c, .slice a l n]) (y0 y1 y2 : Value) : Wk w (Go.Proofs.YtiedmlfiboalhaaGreat.put3 w b y0 y1 y2) := by
  have q := noWs_mat r c a l n
  exact ((h.wk (i := 0) rfl (q _ (by simp)) y0).trans ((h.set 0 y0).wk (i := 1) rfl (q _ (by simp)) y1)).trans (((h.set 0 y0).set 1 y1).wk (i := 2) rfl (q _ (by simp)) y2)
end Go.Proofs.YtiedmlfiboalhaaGreat

/- Each9 -/
namespace Go.Proofs.YtiedmlfiboalhaaGreat
open Go.RowKit
set_option linter.unusedVariables false

abbrev mbox : Obj := .cells #[.int .i64 0, .int .i64 0, .slice none 0 0] 24
theorem mbox_new {w W0 : World} (hW : w.alloc mbox = W0) : Cel W0 w.heap.size 24 [.int .i64 0, .int .i64 0, .slice none 0 0] := by rw [← hW]; exact Cel.new w _ _
end Go.Proofs.YtiedmlfiboalhaaGreat

/- DotsA9 -/
namespace Go.Proofs.YtiedmlfiboalhaaGreat
open Go.RowKit
set_option linter.unusedVariables false

/-- A list of lists of integers. -/
def Ziss (w : World) (pss : List (List (Value × Value))) (zss : List (List Int)) (k : Nat) : Prop := pss.length = zss.length ∧ ∀ (j : Nat) (ps : List (Value × Value)), pss[j]? = some ps → Zis w ps (zss.getD j []) k
theorem Ziss.now {w w' : World} {pss : List (List (Value × Value))} {zss : List (List Int)} {k : Nat} (h : Ziss w pss zss k) (hb : Below w.heap.size w w') : Ziss w' pss zss k := ⟨h.1, fun j ps hp => (h.2 j ps hp).now hb⟩
end Go.Proofs.YtiedmlfiboalhaaGreat
