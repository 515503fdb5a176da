/-
  Lst9: lists of integers cell by cell; arrays that a call makes and fills.
-/
import Derived.Test.YtnpcfohimlfbdaaQDivPureToZlaw0
import Derived.Deep.Slices
import Derived.Deep.AppendLies
namespace Go.Proofs.Ytnpcfohimlfbdaa
open Go.RowKit
set_option linter.unusedVariables false

/-- The slice value v holds these pairs of cells, in memory from block B on. -/
def Prs (B : Nat) (w : World) (v : Value) (ps : List (Value × Value)) : Prop :=
  ∃ a c, v = .slice a ps.length c ∧ ps.length ≤ c ∧ ps.length ≤ 1048576 ∧ (a = none → c = 0) ∧ (ps = [] ∨ ∃ b off, a = some ⟨b, off, none⟩ ∧ B ≤ b ∧ b < w.heap.size ∧ ∀ j p, ps[j]? = some p → w.cell? ⟨b, off + j * 2, none⟩ = some p.1 ∧ w.cell? ⟨b, off + j * 2 + 1, none⟩ = some p.2)
theorem Prs.now {B : Nat} {w w' : World} {v : Value} {ps : List (Value × Value)} (h : Prs B w v ps) (hb : Below w.heap.size w w') : Prs B w' v ps := by
  obtain ⟨a, c, h1, h2, h3, hx, h4⟩ := h
  refine ⟨a, c, h1, h2, h3, hx, ?_⟩
  rcases h4 with h4 | ⟨b, off, h5, h5', h6, h7⟩
  · exact .inl h4
  · exact .inr ⟨b, off, h5, h5', Nat.lt_of_lt_of_le h6 hb.size, fun j p hp => ⟨(hb.cell (p := ⟨b, off + j * 2, none⟩) h6).trans (h7 j p hp).1, (hb.cell (p := ⟨b, off + j * 2 + 1, none⟩) h6).trans (h7 j p hp).2⟩⟩
theorem Prs.mono {B B' : Nat} {w : World} {v : Value} {ps : List (Value × Value)} (h : Prs B w v ps) (hB : B' ≤ B) : Prs B' w v ps := by
  obtain ⟨a, c, h1, h2, h3, hx, h4⟩ := h
  refine ⟨a, c, h1, h2, h3, hx, ?_⟩
  rcases h4 with h4 | ⟨b, off, h5, h5', h6, h7⟩
  · exact .inl h4
  · exact .inr ⟨b, off, h5, by omega, h6, h7⟩
/-- A store into a block below. -/
theorem Prs.off {B g i : Nat} {w : World} {v u : Value} {ps : List (Value × Value)} (h : Prs B w v ps) (hg : g < B) : Prs B (w.setCell ⟨g, i, none⟩ u) v ps := by
  obtain ⟨a, c, h1, h2, h3, hx, h4⟩ := h
  refine ⟨a, c, h1, h2, h3, hx, ?_⟩
  rcases h4 with h4 | ⟨b, off, h5, h5', h6, h7⟩
  · exact .inl h4
  · refine .inr ⟨b, off, h5, h5', by simpa using h6, fun j p hp => ?_⟩
    have e : ∀ o, (w.setCell ⟨g, i, none⟩ u).cell? ⟨b, o, none⟩ = w.cell? ⟨b, o, none⟩ := fun o => World.cell?_setCell_other _ _ _ _ (by simp <;> omega)
    rw [e, e]
    exact h7 j p hp
theorem Prs.form {B : Nat} {w : World} {v : Value} {ps : List (Value × Value)} (h : Prs B w v ps) : ∃ a c, v = .slice a ps.length c ∧ ps.length ≤ c ∧ ps.length ≤ 1048576 ∧ (a = none → c = 0) ∧ (ps ≠ [] → ∃ b off, a = some ⟨b, off, none⟩ ∧ B ≤ b ∧ b < w.heap.size) := by
  obtain ⟨a, c, h1, h2, h3, hx, h4⟩ := h
  refine ⟨a, c, h1, h2, h3, hx, fun hne => ?_⟩
  rcases h4 with h4 | ⟨b, off, h5, h5', h6, h7⟩
  · exact absurd h4 hne
  · exact ⟨b, off, h5, h5', h6⟩
theorem Prs.at {B : Nat} {w : World} {b off l c : Nat} {ps : List (Value × Value)} (h : Prs B w (.slice (some ⟨b, off, none⟩) l c) ps) {i : Nat} {p : Value × Value} (hi : ps[i]? = some p) : w.cell? ⟨b, off + i * 2, none⟩ = some p.1 ∧ w.cell? ⟨b, off + i * 2 + 1, none⟩ = some p.2 := by
  obtain ⟨a', c', h1, h2, h3, hx, h4⟩ := h
  rcases h4 with h4 | ⟨b', off', h5, h5', h6, h7⟩
  · subst h4; simp at hi
  · simp only [Value.slice.injEq] at h1
    obtain ⟨rfl, -, -⟩ := h1
    simp only [Option.some.injEq, Addr.mk.injEq, and_true] at h5
    obtain ⟨rfl, rfl⟩ := h5
    exact h7 i p hi
theorem Prs.nil (B : Nat) (w : World) : Prs B w (.slice none 0 0) [] := ⟨none, 0, rfl, by simp, by simp, fun _ => rfl, .inl rfl⟩
/-- A piece of it. -/
theorem Prs.piece {B : Nat} {w : World} {b off l c : Nat} {ps : List (Value × Value)} (h : Prs B w (.slice (some ⟨b, off, none⟩) l c) ps) {i n : Nat} (hi : i + n ≤ ps.length) : Prs B w (.slice (some ⟨b, off + i * 2, none⟩) n (c - i)) ((ps.drop i).take n) := by
  obtain ⟨a', c', h1, h2, h3, hx, h4⟩ := h
  simp only [Value.slice.injEq] at h1
  obtain ⟨rfl, rfl, rfl⟩ := h1
  have e : ((ps.drop i).take n).length = n := by simp; omega
  refine ⟨_, _, by rw [e], by omega, by omega, (fun q => by cases q), ?_⟩
  rcases h4 with rfl | ⟨b', off', h5, h5', h6, h7⟩
  · exact .inl (by simp)
  · simp only [Option.some.injEq, Addr.mk.injEq, and_true] at h5
    obtain ⟨rfl, rfl⟩ := h5
    refine .inr ⟨b, off + i * 2, rfl, h5', h6, fun j p hp => ?_⟩
    rw [List.getElem?_take] at hp
    by_cases q : j < n
    · rw [if_pos q, List.getElem?_drop] at hp
      have := h7 (i + j) p hp
      rw [Nat.add_mul, ← Nat.add_assoc] at this
      exact this
    · rw [if_neg q] at hp; cases hp

/-- The pairs stand for these integers, in whatever form, or in least form. -/
def Zis (w : World) (ps : List (Value × Value)) (zs : List Int) (k : Nat) : Prop := ps.length = zs.length ∧ ∀ (j : Nat) (p : Value × Value) (z : Int), ps[j]? = some p → zs[j]? = some z → Zi w (.agg #[p.1, p.2]) z k
def Zcs (w : World) (ps : List (Value × Value)) (zs : List Int) (k : Nat) : Prop := ps.length = zs.length ∧ ∀ (j : Nat) (p : Value × Value) (z : Int), ps[j]? = some p → zs[j]? = some z → Zc w (.agg #[p.1, p.2]) z k
theorem Zcs.zis {w : World} {ps : List (Value × Value)} {zs : List Int} {k : Nat} (h : Zcs w ps zs k) : Zis w ps zs k := ⟨h.1, fun j p z hp hz => (h.2 j p z hp hz).zi⟩
theorem Zis.now {w w' : World} {ps : List (Value × Value)} {zs : List Int} {k : Nat} (h : Zis w ps zs k) (hb : Below w.heap.size w w') : Zis w' ps zs k := ⟨h.1, fun j p z hp hz => (h.2 j p z hp hz).now hb⟩
theorem Zcs.now {w w' : World} {ps : List (Value × Value)} {zs : List Int} {k : Nat} (h : Zcs w ps zs k) (hb : Below w.heap.size w w') : Zcs w' ps zs k := ⟨h.1, fun j p z hp hz => (h.2 j p z hp hz).now hb⟩
theorem Zcs.wk {w w' : World} {ps : List (Value × Value)} {zs : List Int} {k : Nat} (h : Zcs w ps zs k) (hb : Wk w w') : Zcs w' ps zs k := ⟨h.1, fun j p z hp hz => (h.2 j p z hp hz).wk hb⟩
theorem Zc.more {w : World} {v : Value} {z : Int} {k l : Nat} (h : Zc w v z k) (hl : k ≤ l) : Zc w v z l := by
  obtain ⟨n, xs, a, c, h1, h2, h3, h4, h5, h6⟩ := h
  exact ⟨n, xs, a, c, h1, h2, h3, h4, h5, by omega⟩
theorem Zcs.more {w : World} {ps : List (Value × Value)} {zs : List Int} {k l : Nat} (h : Zcs w ps zs k) (hl : k ≤ l) : Zcs w ps zs l := ⟨h.1, fun j p z hp hz => (h.2 j p z hp hz).more hl⟩
theorem zl_of {B : Nat} {w : World} {v : Value} {ps : List (Value × Value)} {zs : List Int} {k : Nat} (h : Prs B w v ps) (hz : Zis w ps zs k) : Zl w v zs k := by
  obtain ⟨a, c, h1, h2, h3, -, h4⟩ := h
  obtain ⟨e, hz⟩ := hz
  refine ⟨a, c, by rw [← e]; exact h1, by omega, by omega, ?_⟩
  rcases h4 with h4 | ⟨b, off, h5, h5', h6, h7⟩
  · subst h4
    exact .inl (List.eq_nil_of_length_eq_zero (by simpa using e.symm))
  · refine .inr ⟨b, off, h5, h6, fun j hj => ?_⟩
    have hp : ps[j]? = some (ps[j]'(by omega)) := List.getElem?_eq_getElem (by omega)
    refine ⟨_, _, ?_, ?_, hz j _ _ hp (List.getElem?_eq_getElem hj)⟩
    · rw [Nat.mul_comm]; exact (h7 j _ hp).1
    · rw [Nat.mul_comm]; exact (h7 j _ hp).2
theorem Zl.prs {w : World} {v : Value} {zs : List Int} {k : Nat} (h : Zl w v zs k) (hn : ∀ c, v = .slice none 0 c → c = 0) : ∃ ps, Prs 0 w v ps ∧ Zis w ps zs k := by
  obtain ⟨a, c, h1, h2, h3, h4⟩ := h
  rcases h4 with rfl | ⟨b, off, h5, h6, h7⟩
  · exact ⟨[], ⟨a, c, h1, h2, h3, (fun q => by subst q; exact hn c h1), .inl rfl⟩, rfl, fun j p z hp => by simp at hp⟩
  · obtain ⟨q, hq⟩ := Deep.choose_lt (α := Value × Value) (n := zs.length) (p := fun j q => ∀ hj : j < zs.length, w.cell? ⟨b, off + j * 2, none⟩ = some q.1 ∧ w.cell? ⟨b, off + j * 2 + 1, none⟩ = some q.2 ∧ Zi w (.agg #[q.1, q.2]) zs[j] k) (fun j hj => by
      obtain ⟨x, y, q1, q2, q3⟩ := h7 j hj
      exact ⟨(x, y), fun _ => ⟨by rw [Nat.mul_comm]; exact q1, by rw [Nat.mul_comm]; exact q2, q3⟩⟩)
    have key : ∀ j p, ((List.range zs.length).map q)[j]? = some p → ∃ hj : j < zs.length, p = q j := fun j p hp => by
      have hj : j < zs.length := by simpa using (List.getElem?_eq_some_iff.1 hp).1
      rw [List.getElem?_map, List.getElem?_range hj] at hp
      exact ⟨hj, by simpa using hp.symm⟩
    refine ⟨(List.range zs.length).map q, ⟨a, c, by simpa using h1, by simpa using h2, by simpa using h3, (fun q => by rw [h5] at q; cases q), .inr ⟨b, off, h5, Nat.zero_le _, h6, fun j p hp => ?_⟩⟩, by simp, fun j p z hp hz => ?_⟩
    · obtain ⟨hj, rfl⟩ := key j p hp
      exact ⟨(hq j hj hj).1, (hq j hj hj).2.1⟩
    · obtain ⟨hj, rfl⟩ := key j p hp
      rw [List.getElem?_eq_getElem hj, Option.some.injEq] at hz
      subst hz
      exact (hq j hj hj).2.2

/-- The cells of pairs, one after the other. -/
def flat : List (Value × Value) → List Value
  | [] => []
  | p :: r => p.1 :: p.2 :: flat r
theorem flat_length : ∀ ps : List (Value × Value), (flat ps).length = ps.length * 2
  | [] => rfl
  | p :: r => by simp only [flat, List.length_cons, flat_length r]; omega
theorem flat_append : ∀ ps qs : List (Value × Value), flat (ps ++ qs) = flat ps ++ flat qs
  | [], qs => rfl
  | p :: r, qs => by simp only [flat, List.cons_append, flat_append r qs]
theorem flat_get : ∀ {ps : List (Value × Value)} {i : Nat} {p : Value × Value}, ps[i]? = some p → (flat ps)[i * 2]? = some p.1 ∧ (flat ps)[i * 2 + 1]? = some p.2
  | [], i, p, h => by simp at h
  | q :: r, 0, p, h => by
    simp only [List.getElem?_cons_zero, Option.some.injEq] at h
    subst h
    exact ⟨rfl, rfl⟩
  | q :: r, i + 1, p, h => by
    simp only [List.getElem?_cons_succ] at h
    have := flat_get h
    rw [show (i + 1) * 2 = i * 2 + 1 + 1 by omega]
    simp only [flat, List.getElem?_cons_succ]
    exact this
theorem flat_set : ∀ {ps : List (Value × Value)} {i : Nat} (p : Value × Value), i < ps.length → ((flat ps).set (i * 2) p.1).set (i * 2 + 1) p.2 = flat (ps.set i p)
  | [], i, p, h => by simp at h
  | q :: r, 0, p, h => rfl
  | q :: r, i + 1, p, h => by
    rw [show (i + 1) * 2 = i * 2 + 1 + 1 by omega]
    simp only [flat, List.set_cons_succ]
    rw [flat_set p (by simpa using h)]
def zpair : Value × Value := (.bool false, .slice none 0 0)
/-- A pair of an integer. -/
def IsI (p : Value × Value) : Prop := ∃ n a l c, p = (.bool n, .slice a l c)
theorem Zi.isI {w : World} {x y : Value} {z : Int} {k : Nat} (h : Zi w (.agg #[x, y]) z k) : IsI (x, y) := by
  obtain ⟨n, xs, a, c, e, _⟩ := h
  simp only [Value.agg.injEq, Array.mk.injEq, List.cons.injEq, and_true] at e
  obtain ⟨rfl, rfl⟩ := e
  exact ⟨n, a, xs.length, c, rfl⟩
/-- A block of these pairs. -/
def Arr (w : World) (g : Nat) (ps : List (Value × Value)) : Prop := Cel w g 25 (flat ps) ∧ ∀ p ∈ ps, IsI p
theorem Arr.step {w w' : World} {g : Nat} {ps : List (Value × Value)} (h : Arr w g ps) (hb : Below w.heap.size w w') : Arr w' g ps := ⟨h.1.step hb, h.2⟩
theorem Arr.at {w : World} {g : Nat} {ps : List (Value × Value)} (h : Arr w g ps) {i : Nat} {p : Value × Value} (hi : ps[i]? = some p) : w.cell? ⟨g, i * 2, none⟩ = some p.1 ∧ w.cell? ⟨g, i * 2 + 1, none⟩ = some p.2 := ⟨h.1.at (flat_get hi).1, h.1.at (flat_get hi).2⟩
theorem Arr.put {w : World} {g : Nat} {ps : List (Value × Value)} (h : Arr w g ps) {i : Nat} (hi : i < ps.length) {x y : Value} (hp : IsI (x, y)) : Arr ((w.setCell ⟨g, i * 2, none⟩ x).setCell ⟨g, i * 2 + 1, none⟩ y) g (ps.set i (x, y)) := by
  refine ⟨?_, fun p hp' => ?_⟩
  · rw [← flat_set (x, y) hi]
    exact (h.1.set _ _).set _ _
  · rcases List.mem_or_eq_of_mem_set hp' with q | rfl
    · exact h.2 p q
    · exact hp
theorem Arr.wk {w : World} {g : Nat} {ps : List (Value × Value)} (h : Arr w g ps) {i : Nat} (hi : i < ps.length) (x y : Value) : Wk w ((w.setCell ⟨g, i * 2, none⟩ x).setCell ⟨g, i * 2 + 1, none⟩ y) := by
  have e := flat_get (List.getElem?_eq_getElem hi)
  obtain ⟨n, a, l, c, q⟩ := h.2 _ (List.getElem_mem hi)
  rw [q] at e
  refine (h.1.wk e.1 (noB n) x).trans ((h.1.set _ _).wk (u := .slice a l c) ?_ (noS a l c) y)
  rw [List.getElem?_set_ne (by omega)]
  exact e.2
/-- As a list. -/
theorem Arr.prs {w : World} {g : Nat} {ps : List (Value × Value)} (h : Arr w g ps) {B : Nat} (hB : B ≤ g) (hl : ps.length ≤ 1048576) {cap : Nat} (hc : ps.length ≤ cap) : Prs B w (.slice (some ⟨g, 0, none⟩) ps.length cap) ps :=
  ⟨_, _, rfl, hc, hl, (fun q => by cases q), .inr ⟨g, 0, rfl, hB, h.1.blk, fun j p hp => by rw [Nat.zero_add]; exact h.at hp⟩⟩
theorem Try.infoZ9 : (Try.prog.info? 25).map (fun i => (i.zero, i.size, i.bytes)) = some (some (.agg #[.bool false, .slice none 0 0]), 2, 32) := by kernel_rfl
theorem flat_zero : ∀ m : Nat, flat (List.replicate m zpair) = (List.range (m * 2)).map (fun i => if i % 2 = 0 then Value.bool false else Value.slice none 0 0)
  | 0 => rfl
  | m + 1 => by
    rw [List.replicate_succ', flat_append, flat_zero m, show (m + 1) * 2 = m * 2 + 1 + 1 by omega, List.range_succ, List.range_succ]
    simp [flat, zpair]
theorem madeCells_pairs9 (m : Nat) : madeCells (Value.agg #[.bool false, .slice none 0 0]).cells (m * 2) = (flat (List.replicate m zpair)).toArray := by
  rw [flat_zero]
  apply Array.ext
  · simp [size_madeCells, Value.cells]
  · intro i h1 h2
    have : i % 2 = 0 ∨ i % 2 = 1 := by omega
    rcases this with q | q <;> simp [madeCells, Value.cells, q]
theorem wpList_make_pairs9 (w : World) {ops : Array Oper} {rest : List Oper} {o : Oper} {a : Act} {Q : Exit → Act → World → Prop}
    (hg : o.guard = none) (l c : Operand) (hop : o.op = Op.makeSlice 22 l c)
    (L C : Int) (n m : Nat) (hl : a.eval l = .int .i64 L) (hc : a.eval c = .int .i64 C) (hL : L = (n : Int)) (hC : C = (m : Int)) (hnm : n ≤ m) (hm : m ≤ 2000000)
    (hK : ∀ w', Arr w' w.heap.size (List.replicate m zpair) → Below w.heap.size w w' → Hid (w'.heap.size = w.heap.size + 1) → wpList Try.prog ops Q rest (a.put o.dst (.slice (some ⟨w.heap.size, 0, none⟩) n m)) w') :
    wpList Try.prog ops Q (o :: rest) a w := by
  refine wpList_plain hg fun K hK' => ?_
  obtain ⟨i, hi, hz, hs, hb⟩ := info_parts Try.infoZ9
  have hrun := run_make (P := Try.prog) w 22 25 i (.agg #[.bool false, .slice none 0 0]) Try.underlying22 hi hz .i64 .i64 n m (by omega) (by omega) (by rw [hb]; omega) (by omega)
  subst hL
  subst hC
  rw [hs, Int.toNat_natCast, Int.toNat_natCast] at hrun
  rw [madeCells_pairs9] at hrun
  unfold Oper.wp
  simp [execOp, hop, hl, hc, hrun, Result.andThen]
  refine hK' _ _ (hK _ ⟨?_, fun p hp => ?_⟩ ((Below.refl _ _).alloc (Nat.le_refl _) _) ?_)
  · unfold Cel; exact heap_alloc_new w _
  · rw [List.eq_of_mem_replicate hp]; exact ⟨false, none, 0, 0, rfl⟩
  · unfold Hid; simp
/-- Rows of lists: a block of slice values. -/
def RowL9 (w : World) (g : Nat) (vs : List Value) : Prop := Cel w g 22 vs
theorem Try.infoL9 : (Try.prog.info? 22).map (fun i => (i.zero, i.size, i.bytes)) = some (some (.slice none 0 0), 1, 24) := by kernel_rfl
theorem madeCells_lists9 (m : Nat) : madeCells (Value.slice none 0 0).cells m = (List.replicate m (Value.slice none 0 0)).toArray := by
  apply Array.ext
  · simp [size_madeCells]
  · intro i h1 h2
    simp [madeCells, Value.cells, Nat.mod_one]
theorem wpList_make_rows (w : World) {ops : Array Oper} {rest : List Oper} {o : Oper} {a : Act} {Q : Exit → Act → World → Prop}
    (hg : o.guard = none) (l c : Operand) (hop : o.op = Op.makeSlice 77 l c)
    (L C : Int) (n m : Nat) (hl : a.eval l = .int .i64 L) (hc : a.eval c = .int .i64 C) (hL : L = (n : Int)) (hC : C = (m : Int)) (hnm : n ≤ m) (hm : m ≤ 2000000)
    (hK : ∀ w', RowL9 w' w.heap.size (List.replicate m (.slice none 0 0)) → Below w.heap.size w w' → Hid (w'.heap.size = w.heap.size + 1) → wpList Try.prog ops Q rest (a.put o.dst (.slice (some ⟨w.heap.size, 0, none⟩) n m)) w') :
    wpList Try.prog ops Q (o :: rest) a w := by
  refine wpList_plain hg fun K hK' => ?_
  obtain ⟨i, hi, hz, hs, hb⟩ := info_parts Try.infoL9
  have hrun := run_make (P := Try.prog) w 77 22 i (.slice none 0 0) Try.underlying77 hi hz .i64 .i64 n m (by omega) (by omega) (by rw [hb]; omega) (by omega)
  subst hL
  subst hC
  rw [hs, Nat.mul_one, Int.toNat_natCast, Int.toNat_natCast, madeCells_lists9] at hrun
  unfold Oper.wp
  simp [execOp, hop, hl, hc, hrun, Result.andThen]
  refine hK' _ _ (hK _ ?_ ((Below.refl _ _).alloc (Nat.le_refl _) _) ?_)
  · unfold RowL9 Cel; simpa using heap_alloc_new w _
  · unfold Hid; simp
theorem alo1 (w : World) (o1 : Obj) : Below w.heap.size w (w.alloc o1) ∧ (w.alloc o1).heap.size = w.heap.size + 1 := ⟨(Below.refl _ _).alloc (Nat.le_refl _) _, by simp⟩
theorem wrapI9 {i : Nat} (h : i ≤ 1048576) : IntKind.i64.wrap ((i : Int) + 1) = ((i + 1 : Nat) : Int) := by rw [wrap_is] <;> omega
end Go.Proofs.Ytnpcfohimlfbdaa
