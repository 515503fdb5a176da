/-
  QLst9ToTail: Lst9, Fil9, Tail, joined.
-/
import Derived.Test.YtiedmlfiboalhaaGreatQExact0ToZlaw0
import Derived.Deep.Slices
import Derived.Deep.AppendLies
import Derived.Deep.LoopGhost
import Derived.Test.YtiedmlfiboalhaaGreatQWordsToCarry
import Derived.Deep.RegionHeld3
import Derived.StillTail

/- Lst9 -/
namespace Go.Proofs.YtiedmlfiboalhaaGreat
open Go.RowKit
set_option linter.unusedVariables false

/-- The slice value v holds these pairs of cells, in memory from block B on. -/
def Prs (B : Nat) (w : World) (v : Value) (ps : List (Value × Value)) : Prop :=
  ∃ a c, v = .slice a ps.length c ∧ ps.length ≤ c ∧ ps.length ≤ 1048576 ∧ (a = none → c = 0) ∧ (ps = [] ∨ ∃ b off, a = some ⟨b, off, none⟩ ∧ B ≤ b ∧ b < w.heap.size ∧ ∀ j p, ps[j]? = some p → w.cell? ⟨b, off + j * 2, none⟩ = some p.1 ∧ w.cell? ⟨b, off + j * 2 + 1, none⟩ = some p.2)
theorem Prs.now {B : Nat} {w w' : World} {v : Value} {ps : List (Value × Value)} (h : Prs B w v ps) (hb : Below w.heap.size w w') : Prs B w' v ps := by
  obtain ⟨a, c, h1, h2, h3, hx, h4⟩ := h
  refine ⟨a, c, h1, h2, h3, hx, ?_⟩
  rcases h4 with h4 | ⟨b, off, h5, h5', h6, h7⟩
  · exact .inl h4
  · exact .inr ⟨b, off, h5, h5', Nat.lt_of_lt_of_le h6 hb.size, fun j p hp => ⟨(hb.cell (p := ⟨b, off + j * 2, none⟩) h6).trans (h7 j p hp).1, (hb.cell (p := ⟨b, off + j * 2 + 1, none⟩) h6).trans (h7 j p hp).2⟩⟩
theorem Prs.mono {B B' : Nat} {w : World} {v : Value} {ps : List (Value × Value)} (h : Prs B w v ps) (hB : B' ≤ B) : Prs B' w v ps := by
  obtain ⟨a, c, h1, h2, h3, hx, h4⟩ := h
  refine ⟨a, c, h1, h2, h3, hx, ?_⟩
  rcases h4 with h4 | ⟨b, off, h5, h5', h6, h7⟩
  · exact .inl h4
  · exact .inr ⟨b, off, h5, by omega, h6, h7⟩
/-- A store into a block below. -/
theorem Prs.off {B g i : Nat} {w : World} {v u : Value} {ps : List (Value × Value)} (h : Prs B w v ps) (hg : g < B) : Prs B (w.setCell ⟨g, i, none⟩ u) v ps := by
  obtain ⟨a, c, h1, h2, h3, hx, h4⟩ := h
  refine ⟨a, c, h1, h2, h3, hx, ?_⟩
  rcases h4 with h4 | ⟨b, off, h5, h5', h6, h7⟩
  · exact .inl h4
  · refine .inr ⟨b, off, h5, h5', by simpa using h6, fun j p hp => ?_⟩
    have e : ∀ o, (w.setCell ⟨g, i, none⟩ u).cell? ⟨b, o, none⟩ = w.cell? ⟨b, o, none⟩ := fun o => World.cell?_setCell_other _ _ _ _ (by simp <;> omega)
    rw [e, e]
    exact h7 j p hp
theorem Prs.form {B : Nat} {w : World} {v : Value} {ps : List (Value × Value)} (h : Prs B w v ps) : ∃ a c, v = .slice a ps.length c ∧ ps.length ≤ c ∧ ps.length ≤ 1048576 ∧ (a = none → c = 0) ∧ (ps ≠ [] → ∃ b off, a = some ⟨b, off, none⟩ ∧ B ≤ b ∧ b < w.heap.size) := by
  obtain ⟨a, c, h1, h2, h3, hx, h4⟩ := h
  refine ⟨a, c, h1, h2, h3, hx, fun hne => ?_⟩
  rcases h4 with h4 | ⟨b, off, h5, h5', h6, h7⟩
  · exact absurd h4 hne
  · exact ⟨b, off, h5, h5', h6⟩
theorem Prs.at {B : Nat} {w : World} {b off l c : Nat} {ps : List (Value × Value)} (h : Prs B w (.slice (some ⟨b, off, none⟩) l c) ps) {i : Nat} {p : Value × Value} (hi : ps[i]? = some p) : w.cell? ⟨b, off + i * 2, none⟩ = some p.1 ∧ w.cell? ⟨b, off + i * 2 + 1, none⟩ = some p.2 := by
  obtain ⟨a', c', h1, h2, h3, hx, h4⟩ := h
  rcases h4 with h4 | ⟨b', off', h5, h5', h6, h7⟩
  · subst h4; simp at hi
  · simp only [Value.slice.injEq] at h1
    obtain ⟨rfl, -, -⟩ := h1
    simp only [Option.some.injEq, Addr.mk.injEq, and_true] at h5
    obtain ⟨rfl, rfl⟩ := h5
    exact h7 i p hi
theorem Prs.nil (B : Nat) (w : World) : Prs B w (.slice none 0 0) [] := ⟨none, 0, rfl, by simp, by simp, fun _ => rfl, .inl rfl⟩
/-- A piece of it. -/
theorem Prs.piece {B : Nat} {w : World} {b off l c : Nat} {ps : List (Value × Value)} (h : Prs B w (.slice (some ⟨b, off, none⟩) l c) ps) {i n : Nat} (hi : i + n ≤ ps.length) : Prs B w (.slice (some ⟨b, off + i * 2, none⟩) n (c - i)) ((ps.drop i).take n) := by
  obtain ⟨a', c', h1, h2, h3, hx, h4⟩ := h
  simp only [Value.slice.injEq] at h1
  obtain ⟨rfl, rfl, rfl⟩ := h1
  have e : ((ps.drop i).take n).length = n := by simp; omega
  refine ⟨_, _, by rw [e], by omega, by omega, (fun q => by cases q), ?_⟩
  rcases h4 with rfl | ⟨b', off', h5, h5', h6, h7⟩
  · exact .inl (by simp)
  · simp only [Option.some.injEq, Addr.mk.injEq, and_true] at h5
    obtain ⟨rfl, rfl⟩ := h5
    refine .inr ⟨b, off + i * 2, rfl, h5', h6, fun j p hp => ?_⟩
    rw [List.getElem?_take] at hp
    by_cases q : j < n
    · rw [if_pos q, List.getElem?_drop] at hp
      have := h7 (i + j) p hp
      rw [Nat.add_mul, ← Nat.add_assoc] at this
      exact this
    · rw [if_neg q] at hp; cases hp

/-- The pairs stand for these integers, in whatever form, or in least form. -/
def Zis (w : World) (ps : List (Value × Value)) (zs : List Int) (k : Nat) : Prop := ps.length = zs.length ∧ ∀ (j : Nat) (p : Value × Value) (z : Int), ps[j]? = some p → zs[j]? = some z → Zi w (.agg #[p.1, p.2]) z k
def Zcs (w : World) (ps : List (Value × Value)) (zs : List Int) (k : Nat) : Prop := ps.length = zs.length ∧ ∀ (j : Nat) (p : Value × Value) (z : Int), ps[j]? = some p → zs[j]? = some z → Zc w (.agg #[p.1, p.2]) z k
theorem Zcs.zis {w : World} {ps : List (Value × Value)} {zs : List Int} {k : Nat} (h : Zcs w ps zs k) : Zis w ps zs k := ⟨h.1, fun j p z hp hz => (h.2 j p z hp hz).zi⟩
theorem Zis.now {w w' : World} {ps : List (Value × Value)} {zs : List Int} {k : Nat} (h : Zis w ps zs k) (hb : Below w.heap.size w w') : Zis w' ps zs k := ⟨h.1, fun j p z hp hz => (h.2 j p z hp hz).now hb⟩
theorem Zcs.now {w w' : World} {ps : List (Value × Value)} {zs : List Int} {k : Nat} (h : Zcs w ps zs k) (hb : Below w.heap.size w w') : Zcs w' ps zs k := ⟨h.1, fun j p z hp hz => (h.2 j p z hp hz).now hb⟩
theorem Zcs.wk {w w' : World} {ps : List (Value × Value)} {zs : List Int} {k : Nat} (h : Zcs w ps zs k) (hb : Wk w w') : Zcs w' ps zs k := ⟨h.1, fun j p z hp hz => (h.2 j p z hp hz).wk hb⟩
theorem Zis.wk {w w' : World} {ps : List (Value × Value)} {zs : List Int} {k : Nat} (h : Zis w ps zs k) (hb : Wk w w') : Zis w' ps zs k := ⟨h.1, fun j p z hp hz => (h.2 j p z hp hz).wk hb⟩
theorem Zc.more {w : World} {v : Value} {z : Int} {k l : Nat} (h : Zc w v z k) (hl : k ≤ l) : Zc w v z l := by
  obtain ⟨n, xs, a, c, h1, h2, h3, h4, h5, h6⟩ := h
  exact ⟨n, xs, a, c, h1, h2, h3, h4, h5, by omega⟩
theorem Zis.more {w : World} {ps : List (Value × Value)} {zs : List Int} {k l : Nat} (h : Zis w ps zs k) (hl : k ≤ l) : Zis w ps zs l := ⟨h.1, fun j p z hp hz => (h.2 j p z hp hz).more hl⟩
theorem Zcs.more {w : World} {ps : List (Value × Value)} {zs : List Int} {k l : Nat} (h : Zcs w ps zs k) (hl : k ≤ l) : Zcs w ps zs l := ⟨h.1, fun j p z hp hz => (h.2 j p z hp hz).more hl⟩
theorem zl_of {B : Nat} {w : World} {v : Value} {ps : List (Value × Value)} {zs : List Int} {k : Nat} (h : Prs B w v ps) (hz : Zis w ps zs k) : Zl w v zs k := by
  obtain ⟨a, c, h1, h2, h3, -, h4⟩ := h
  obtain ⟨e, hz⟩ := hz
  refine ⟨a, c, by rw [← e]; exact h1, by omega, by omega, ?_⟩
  rcases h4 with h4 | ⟨b, off, h5, h5', h6, h7⟩
  · subst h4
    exact .inl (List.eq_nil_of_length_eq_zero (by simpa using e.symm))
  · refine .inr ⟨b, off, h5, h6, fun j hj => ?_⟩
    have hp : ps[j]? = some (ps[j]'(by omega)) := List.getElem?_eq_getElem (by omega)
    refine ⟨_, _, ?_, ?_, hz j _ _ hp (List.getElem?_eq_getElem hj)⟩
    · rw [Nat.mul_comm]; exact (h7 j _ hp).1
    · rw [Nat.mul_comm]; exact (h7 j _ hp).2
theorem Zl.prs {w : World} {v : Value} {zs : List Int} {k : Nat} (h : Zl w v zs k) (hn : ∀ c, v = .slice none 0 c → c = 0) : ∃ ps, Prs 0 w v ps ∧ Zis w ps zs k := by
  obtain ⟨a, c, h1, h2, h3, h4⟩ := h
  rcases h4 with rfl | ⟨b, off, h5, h6, h7⟩
  · exact ⟨[], ⟨a, c, h1, h2, h3, (fun q => by subst q; exact hn c h1), .inl rfl⟩, rfl, fun j p z hp => by simp at hp⟩
  · obtain ⟨q, hq⟩ := Deep.choose_lt (α := Value × Value) (n := zs.length) (p := fun j q => ∀ hj : j < zs.length, w.cell? ⟨b, off + j * 2, none⟩ = some q.1 ∧ w.cell? ⟨b, off + j * 2 + 1, none⟩ = some q.2 ∧ Zi w (.agg #[q.1, q.2]) zs[j] k) (fun j hj => by
      obtain ⟨x, y, q1, q2, q3⟩ := h7 j hj
      exact ⟨(x, y), fun _ => ⟨by rw [Nat.mul_comm]; exact q1, by rw [Nat.mul_comm]; exact q2, q3⟩⟩)
    have key : ∀ j p, ((List.range zs.length).map q)[j]? = some p → ∃ hj : j < zs.length, p = q j := fun j p hp => by
      have hj : j < zs.length := by simpa using (List.getElem?_eq_some_iff.1 hp).1
      rw [List.getElem?_map, List.getElem?_range hj] at hp
      exact ⟨hj, by simpa using hp.symm⟩
    refine ⟨(List.range zs.length).map q, ⟨a, c, by simpa using h1, by simpa using h2, by simpa using h3, (fun q => by rw [h5] at q; cases q), .inr ⟨b, off, h5, Nat.zero_le _, h6, fun j p hp => ?_⟩⟩, by simp, fun j p z hp hz => ?_⟩
    · obtain ⟨hj, rfl⟩ := key j p hp
      exact ⟨(hq j hj hj).1, (hq j hj hj).2.1⟩
    · obtain ⟨hj, rfl⟩ := key j p hp
      rw [List.getElem?_eq_getElem hj, Option.some.injEq] at hz
      subst hz
      exact (hq j hj hj).2.2

/-- The cells of pairs, one after the other. -/
def flat : List (Value × Value) → List Value
  | [] => []
  | p :: r => p.1 :: p.2 :: flat r
theorem flat_append : ∀ ps qs : List (Value × Value), flat (ps ++ qs) = flat ps ++ flat qs
  | [], qs => rfl
  | p :: r, qs => by simp only [flat, List.cons_append, flat_append r qs]
theorem flat_get : ∀ {ps : List (Value × Value)} {i : Nat} {p : Value × Value}, ps[i]? = some p → (flat ps)[i * 2]? = some p.1 ∧ (flat ps)[i * 2 + 1]? = some p.2
  | [], i, p, h => by simp at h
  | q :: r, 0, p, h => by
    simp only [List.getElem?_cons_zero, Option.some.injEq] at h
    subst h
    exact ⟨rfl, rfl⟩
  | q :: r, i + 1, p, h => by
    simp only [List.getElem?_cons_succ] at h
    have := flat_get h
    rw [show (i + 1) * 2 = i * 2 + 1 + 1 by omega]
    simp only [flat, List.getElem?_cons_succ]
    exact this
theorem flat_set : ∀ {ps : List (Value × Value)} {i : Nat} (p : Value × Value), i < ps.length → ((flat ps).set (i * 2) p.1).set (i * 2 + 1) p.2 = flat (ps.set i p)
  | [], i, p, h => by simp at h
  | q :: r, 0, p, h => rfl
  | q :: r, i + 1, p, h => by
    rw [show (i + 1) * 2 = i * 2 + 1 + 1 by omega]
    simp only [flat, List.set_cons_succ]
    rw [flat_set p (by simpa using h)]
def zpair : Value × Value := (.bool false, .slice none 0 0)
/-- A pair of an integer. -/
def IsI (p : Value × Value) : Prop := ∃ n a l c, p = (.bool n, .slice a l c)
theorem Zi.isI {w : World} {x y : Value} {z : Int} {k : Nat} (h : Zi w (.agg #[x, y]) z k) : IsI (x, y) := by
  obtain ⟨n, xs, a, c, e, _⟩ := h
  simp only [Value.agg.injEq, Array.mk.injEq, List.cons.injEq, and_true] at e
  obtain ⟨rfl, rfl⟩ := e
  exact ⟨n, a, xs.length, c, rfl⟩
/-- A block of these pairs. -/
def Arr (w : World) (g : Nat) (ps : List (Value × Value)) : Prop := Cel w g 43 (flat ps) ∧ ∀ p ∈ ps, IsI p
theorem Arr.step {w w' : World} {g : Nat} {ps : List (Value × Value)} (h : Arr w g ps) (hb : Below w.heap.size w w') : Arr w' g ps := ⟨h.1.step hb, h.2⟩
theorem Arr.at {w : World} {g : Nat} {ps : List (Value × Value)} (h : Arr w g ps) {i : Nat} {p : Value × Value} (hi : ps[i]? = some p) : w.cell? ⟨g, i * 2, none⟩ = some p.1 ∧ w.cell? ⟨g, i * 2 + 1, none⟩ = some p.2 := ⟨h.1.at (flat_get hi).1, h.1.at (flat_get hi).2⟩
theorem Arr.put {w : World} {g : Nat} {ps : List (Value × Value)} (h : Arr w g ps) {i : Nat} (hi : i < ps.length) {x y : Value} (hp : IsI (x, y)) : Arr ((w.setCell ⟨g, i * 2, none⟩ x).setCell ⟨g, i * 2 + 1, none⟩ y) g (ps.set i (x, y)) := by
  refine ⟨?_, fun p hp' => ?_⟩
  · rw [← flat_set (x, y) hi]
    exact (h.1.set _ _).set _ _
  · rcases List.mem_or_eq_of_mem_set hp' with q | rfl
    · exact h.2 p q
    · exact hp
theorem Arr.wk {w : World} {g : Nat} {ps : List (Value × Value)} (h : Arr w g ps) {i : Nat} (hi : i < ps.length) (x y : Value) : Wk w ((w.setCell ⟨g, i * 2, none⟩ x).setCell ⟨g, i * 2 + 1, none⟩ y) := by
  have e := flat_get (List.getElem?_eq_getElem hi)
  obtain ⟨n, a, l, c, q⟩ := h.2 _ (List.getElem_mem hi)
  rw [q] at e
  refine (h.1.wk e.1 (noB n) x).trans ((h.1.set _ _).wk (u := .slice a l c) ?_ (noS a l c) y)
  rw [List.getElem?_set_ne (by omega)]
  exact e.2
/-- As a list. -/
theorem Arr.prs {w : World} {g : Nat} {ps : List (Value × Value)} (h : Arr w g ps) {B : Nat} (hB : B ≤ g) (hl : ps.length ≤ 1048576) {cap : Nat} (hc : ps.length ≤ cap) : Prs B w (.slice (some ⟨g, 0, none⟩) ps.length cap) ps :=
  ⟨_, _, rfl, hc, hl, (fun q => by cases q), .inr ⟨g, 0, rfl, hB, h.1.blk, fun j p hp => by rw [Nat.zero_add]; exact h.at hp⟩⟩
theorem Tryz.infoZ9 : (Tryz.prog.info? 43).map (fun i => (i.zero, i.size, i.bytes)) = some (some (.agg #[.bool false, .slice none 0 0]), 2, 32) := by kernel_rfl
theorem flat_zero : ∀ m : Nat, flat (List.replicate m zpair) = (List.range (m * 2)).map (fun i => if i % 2 = 0 then Value.bool false else Value.slice none 0 0)
  | 0 => rfl
  | m + 1 => by
    rw [List.replicate_succ', flat_append, flat_zero m, show (m + 1) * 2 = m * 2 + 1 + 1 by omega, List.range_succ, List.range_succ]
    simp [flat, zpair]
theorem madeCells_pairs9 (m : Nat) : madeCells (Value.agg #[.bool false, .slice none 0 0]).cells (m * 2) = (flat (List.replicate m zpair)).toArray := by
  rw [flat_zero]
  apply Array.ext
  · simp [size_madeCells, Value.cells]
  · intro i h1 h2
    have : i % 2 = 0 ∨ i % 2 = 1 := by omega
    rcases this with q | q <;> simp [madeCells, Value.cells, q]
theorem wpList_make_pairs9 (w : World) {ops : Array Oper} {rest : List Oper} {o : Oper} {a : Act} {Q : Exit → Act → World → Prop}
    (hg : o.guard = none) (l c : Operand) (hop : o.op = Op.makeSlice 22 l c)
    (L C : Int) (n m : Nat) (hl : a.eval l = .int .i64 L) (hc : a.eval c = .int .i64 C) (hL : L = (n : Int)) (hC : C = (m : Int)) (hnm : n ≤ m) (hm : m ≤ 2000000)
    (hK : ∀ w', Arr w' w.heap.size (List.replicate m zpair) → Below w.heap.size w w' → Hid (w'.heap.size = w.heap.size + 1) → wpList Tryz.prog ops Q rest (a.put o.dst (.slice (some ⟨w.heap.size, 0, none⟩) n m)) w') :
    wpList Tryz.prog ops Q (o :: rest) a w := by
  refine wpList_plain hg fun K hK' => ?_
  obtain ⟨i, hi, hz, hs, hb⟩ := info_parts Tryz.infoZ9
  have hrun := run_make (P := Tryz.prog) w 22 43 i (.agg #[.bool false, .slice none 0 0]) Tryz.underlying22 hi hz .i64 .i64 n m (by omega) (by omega) (by rw [hb]; omega) (by omega)
  subst hL
  subst hC
  rw [hs, Int.toNat_natCast, Int.toNat_natCast] at hrun
  rw [madeCells_pairs9] at hrun
  unfold Oper.wp
  simp [execOp, hop, hl, hc, hrun, Result.andThen]
  refine hK' _ _ (hK _ ⟨?_, fun p hp => ?_⟩ ((Below.refl _ _).alloc (Nat.le_refl _) _) ?_)
  · unfold Cel; exact heap_alloc_new w _
  · rw [List.eq_of_mem_replicate hp]; exact ⟨false, none, 0, 0, rfl⟩
  · unfold Hid; simp
/-- Rows of lists: a block of slice values. -/
def RowL9 (w : World) (g : Nat) (vs : List Value) : Prop := Cel w g 22 vs
theorem alo1 (w : World) (o1 : Obj) : Below w.heap.size w (w.alloc o1) ∧ (w.alloc o1).heap.size = w.heap.size + 1 := ⟨(Below.refl _ _).alloc (Nat.le_refl _) _, by simp⟩
theorem wrapI9 {i : Nat} (h : i ≤ 1048576) : IntKind.i64.wrap ((i : Int) + 1) = ((i + 1 : Nat) : Int) := by rw [wrap_is] <;> omega
end Go.Proofs.YtiedmlfiboalhaaGreat

/- Fil9 -/
namespace Go.Proofs.YtiedmlfiboalhaaGreat
open Go.RowKit
set_option linter.unusedVariables false

def Fil (wx : World) (g n i : Nat) (F : Nat → Int) (k : Nat) : Prop := ∃ ps, Arr wx g ps ∧ ps.length = n ∧ ∀ (j : Nat) (p : Value × Value), j < i → ps[j]? = some p → Zc wx (.agg #[p.1, p.2]) (F j) k
theorem Fil.start {w : World} {g n : Nat} (h : Arr w g (List.replicate n zpair)) (F : Nat → Int) (k : Nat) : Fil w g n 0 F k := ⟨_, h, by simp, fun j p hj => by omega⟩
theorem Fil.step {w w' : World} {g n i : Nat} {F : Nat → Int} {k : Nat} (h : Fil w g n i F k) (hb : Below w.heap.size w w') : Fil w' g n i F k := by
  obtain ⟨ps, h1, h2, h3⟩ := h
  exact ⟨ps, h1.step hb, h2, fun j p hj hp => (h3 j p hj hp).now hb⟩
theorem Fil.put {w : World} {g n i : Nat} {F : Nat → Int} {k : Nat} {x y : Value} (h : Fil w g n i F k) (hi : i < n) (hz : Zc w (.agg #[x, y]) (F i) k) : Fil ((w.setCell ⟨g, i * 2, none⟩ x).setCell ⟨g, i * 2 + 1, none⟩ y) g n (i + 1) F k := by
  obtain ⟨ps, h1, h2, h3⟩ := h
  have hw := h1.wk (i := i) (by omega) x y
  refine ⟨ps.set i (x, y), h1.put (by omega) hz.zi.isI, by simpa using h2, fun j p hj hp => ?_⟩
  by_cases q : j = i
  · subst q
    rw [List.getElem?_set_self (by omega), Option.some.injEq] at hp
    subst hp
    exact hz.wk hw
  · rw [List.getElem?_set_ne (by omega)] at hp
    exact (h3 j p (by omega) hp).wk hw
theorem Fil.blk {w : World} {g n i : Nat} {F : Nat → Int} {k : Nat} (h : Fil w g n i F k) : g < w.heap.size := by
  obtain ⟨ps, h1, h2, h3⟩ := h
  exact h1.1.blk
theorem Fil.cells {w : World} {g n i j : Nat} {F : Nat → Int} {k : Nat} (h : Fil w g n i F k) (hj : j < n) : ∃ m a l c, w.cell? ⟨g, j * 2, none⟩ = some (.bool m) ∧ w.cell? ⟨g, j * 2 + 1, none⟩ = some (.slice a l c) ∧ w.frozen? ⟨g, j * 2, none⟩ = false ∧ w.frozen? ⟨g, j * 2 + 1, none⟩ = false := by
  obtain ⟨ps, h1, h2, h3⟩ := h
  have hp : ps[j]? = some (ps[j]'(by omega)) := List.getElem?_eq_getElem (by omega)
  obtain ⟨m, a, l, c, e⟩ := h1.2 _ (List.getElem_mem (l := ps) (n := j) (by omega))
  have q := h1.at hp
  rw [e] at q
  exact ⟨m, a, l, c, q.1, q.2, h1.1.fz _, h1.1.fz _⟩
theorem Fil.done {w : World} {g n : Nat} {F : Nat → Int} {k : Nat} (h : Fil w g n n F k) {B : Nat} (hB : B ≤ g) (hn : n ≤ 1048576) : ∃ ps, Prs B w (.slice (some ⟨g, 0, none⟩) n n) ps ∧ Zcs w ps ((List.range n).map F) k := by
  obtain ⟨ps, h1, rfl, h3⟩ := h
  refine ⟨ps, h1.prs hB hn (Nat.le_refl _), by simp, fun j p z hp hz => ?_⟩
  have hj : j < ps.length := (List.getElem?_eq_some_iff.1 hp).1
  rw [List.getElem?_map, List.getElem?_range hj, Option.map_some, Option.some.injEq] at hz
  subst hz
  exact h3 j p hj hp
theorem Zl.form9 {w : World} {v : Value} {zs : List Int} {k : Nat} (h : Zl w v zs k) : ∃ a c, v = .slice a zs.length c ∧ zs.length ≤ c ∧ zs.length ≤ 1048576 ∧ (zs ≠ [] → ∃ b off, a = some ⟨b, off, none⟩) := by
  obtain ⟨a, c, h1, h2, h3, h4⟩ := h
  refine ⟨a, c, h1, h2, h3, fun hne => ?_⟩
  rcases h4 with h4 | ⟨b, off, h5, _⟩
  · exact absurd h4 hne
  · exact ⟨b, off, h5⟩
theorem Zl.at9 {w : World} {b off l c : Nat} {zs : List Int} {k : Nat} (h : Zl w (.slice (some ⟨b, off, none⟩) l c) zs k) {i : Nat} (hi : i < zs.length) : ∃ n, ∃ xs : List Int, ∃ a c, w.cell? ⟨b, off + i * 2, none⟩ = some (.bool n) ∧ w.cell? ⟨b, off + i * 2 + 1, none⟩ = some (.slice a xs.length c) ∧ Zi w (.agg #[.bool n, .slice a xs.length c]) zs[i] k := by
  obtain ⟨a', c', h1, h2, h3, h4⟩ := h
  rcases h4 with h4 | ⟨b', off', h5, h6, h7⟩
  · subst h4; simp at hi
  · simp only [Value.slice.injEq] at h1
    obtain ⟨rfl, -, -⟩ := h1
    simp only [Option.some.injEq, Addr.mk.injEq, and_true] at h5
    obtain ⟨rfl, rfl⟩ := h5
    obtain ⟨x, y, q1, q2, q3⟩ := h7 i hi
    have q3' := q3
    obtain ⟨n, xs, a, c, e, -⟩ := q3
    simp only [Value.agg.injEq, Array.mk.injEq, List.cons.injEq, and_true] at e
    obtain ⟨rfl, rfl⟩ := e
    rw [Nat.mul_comm 2 i] at q1 q2
    exact ⟨n, xs, a, c, q1, q2, q3'⟩
theorem Zm.parts {B : Nat} {w : World} {v : Value} {z : Int} {k : Nat} (h : Zm B w v z k) : ∃ n, ∃ xs : List Int, ∃ a c, v = .agg #[.bool n, .slice a xs.length c] := by
  obtain ⟨n, xs, a, c, e, -⟩ := h
  exact ⟨n, xs, a, c, e⟩
end Go.Proofs.YtiedmlfiboalhaaGreat

/- Tail -/
namespace Go.Proofs.YtiedmlfiboalhaaGreat
open Go.RowKit
set_option linter.unusedVariables false

section
variable {P : Program} {ops : Array Oper} {Q : Exit → Act → World → Prop} {md : Region.Mode} {S : World → Prop} {n : Nat}

/-- Whatever order is picked from here on, and S holds behind every operation below n that is carried out. -/
def wpAnyT (P : Program) (md : Region.Mode) (ops : Array Oper) (Q : Exit → Act → World → Prop) (S : World → Prop) (n : Nat) : Nat → Array Bool → Act → World → Prop
  | 0, listed, a, w => Region.ready md ops listed = [] ∧ Q .normal a w
  | fuel + 1, listed, a, w =>
    (Region.ready md ops listed = [] → Q .normal a w) ∧
    ∀ i ∈ Region.ready md ops listed, wpOp P ops Q i (fun a' w' => (i < n → S w') ∧ wpAnyT P md ops Q S n fuel (listed.setIfInBounds i true) a' w') a w

theorem wpAny_of_tail : ∀ (fuel : Nat) (listed : Array Bool) (a : Act) (w : World), wpAnyT P md ops Q S n fuel listed a w → wpAny P md ops Q fuel listed a w
  | 0, _, _, _, h => h
  | fuel + 1, _, _, _, h => ⟨h.1, fun i hi => wpOp_mono (fun a' w' h' => wpAny_of_tail fuel _ a' w' h'.2) (h.2 i hi)⟩

theorem wpAnyT_first {i : Nat} {oi : Oper} {v : Value} (hi : ops[i]? = some oi) (hsel : ∀ (j : Nat) (o : Oper) cs b, ops[j]? = some o → o.op ≠ .select cs b)
    (hQ : ∀ c a w, Q (.panic c) (a.put oi.dst v) w → Q (.panic c) a w)
    (hs : Region.sinkB md ops n = true) (hc : Region.chainB md ops n = true) (hn : n < ops.size) (hin : i < n) :
    ∀ (fuel : Nat) (listed : Array Bool) (a : Act) (w : World), HeadInv md ops n listed →
      (∀ j oj, ops[j]? = some oj → j ≠ i → listed.getD j true = false → (∀ e ∈ oj.after, Region.binds md e = true → e.on ≠ i) → oi.apart ops oj = true) →
      i ∈ Region.ready md ops listed → YieldsIf P ops S oi v a → S w →
      wpAnyT P md ops Q S n fuel (listed.setIfInBounds i true) (a.put oi.dst v) w → wpAnyT P md ops Q S n (fuel + 1) listed a w := by
  intro fuel
  induction fuel with
  | zero =>
    intro listed a w inv _ hr hy hS H
    refine ⟨fun h => (by rw [h] at hr; cases hr), fun j hj => ?_⟩
    by_cases hji : j = i
    · subst hji; exact hy.wpOp hi hS ⟨fun _ => hS, H⟩
    · have := ready_mono hj hji
      rw [H.1] at this
      cases this
  | succ fuel ih =>
    intro listed a w inv hfree hr hy hS H
    have hun := (mem_ready.1 hr).1
    refine ⟨fun h => (by rw [h] at hr; cases hr), fun j hj => ?_⟩
    have hjn : j < n := by
      rcases Nat.lt_or_ge j n with h | h
      · exact h
      · exact absurd hj (tail_waits hs hc hn inv _ i rfl hin hun j h)
    by_cases hji : j = i
    · subst hji; exact hy.wpOp hi hS ⟨fun _ => hS, H⟩
    · have h1 := H.2 j (ready_mono hj hji)
      obtain ⟨hjun, oj, hoj, hall⟩ := mem_ready.1 hj
      have hnot : ∀ e ∈ oj.after, Region.binds md e = true → e.on ≠ i := fun e he hb heq => by
        have h1 := hall e he hb
        have h0 := (mem_ready.1 hr).1
        rw [heq] at h1
        rcases Nat.lt_or_ge i listed.size with h' | h'
        · simp [h'] at h0 h1; rw [h0] at h1; cases h1
        · simp [Array.getElem?_eq_none h'] at h1
      have h2 := wpOp_putIf hoj (hfree j oj hoj hji hjun hnot) (fun cs b => hsel i oi cs b hi) (fun cs b => hsel j oj cs b hoj) hQ hy h1
      have hfree' : ∀ k ok, ops[k]? = some ok → k ≠ i → (listed.setIfInBounds j true).getD k true = false →
          (∀ e ∈ ok.after, Region.binds md e = true → e.on ≠ i) → oi.apart ops ok = true := fun k ok hk hki hun hno => by
        refine hfree k ok hk hki ?_ hno
        by_cases hjk : j = k
        · subst hjk; exact hjun
        · rw [getD_set_ne true hjk] at hun; exact hun
      refine wpOp_mono (fun a' w' h3 => ⟨fun _ => h3.2.1 hjn, ih (listed.setIfInBounds j true) a' w' (inv.set hj hjn) hfree' (ready_mono hr (Ne.symm hji)) h3.1 (h3.2.1 hjn) ?_⟩) h2
      rw [Array.setIfInBounds_comm _ _ hji]
      exact h3.2.2

/-- The condition on what is listed, as a Bool. -/
def headB (md : Region.Mode) (ops : Array Oper) (n : Nat) (listed : Array Bool) : Bool :=
  decide (listed.size = ops.size) && (List.range ops.size).all (fun j => match ops[j]? with
    | some oj => !(listed.getD j false) || oj.after.all (fun e => !(Region.binds md e) || listed.getD e.on false)
    | none => true) && (List.range ops.size).all (fun t => decide (t < n) || !(listed.getD t true))
theorem headB_spec {listed : Array Bool} (h : headB md ops n listed = true) : HeadInv md ops n listed := by
  unfold headB at h
  simp only [Bool.and_eq_true, decide_eq_true_eq, List.all_eq_true, List.mem_range, Bool.or_eq_true, Bool.not_eq_true'] at h
  obtain ⟨⟨h1, h2⟩, h3⟩ := h
  refine ⟨h1, fun j oj hj hl e he hb => ?_, fun t ht ht' => ?_⟩
  · have h4 := h2 j (Array.getElem?_eq_some_iff.1 hj).1
    simp only [hj, Bool.or_eq_true, Bool.not_eq_true', hl, Bool.true_eq_false, false_or] at h4
    have h5 := Array.all_eq_true_iff_forall_mem.1 h4 e he
    simp only [Bool.or_eq_true, Bool.not_eq_true', hb, Bool.true_eq_false, false_or] at h5
    exact h5
  · rcases h3 t ht' with h4 | h4
    · omega
    · exact h4
theorem wpAnyT_take {i : Nat} {oi : Oper} {v : Value} {fuel : Nat} {listed : Array Bool} {a : Act} {w : World} (hi : ops[i]? = some oi)
    (hok : (Region.noSelect ops && Region.free md ops listed i && (Region.ready md ops listed).contains i && Region.sinkB md ops n && Region.chainB md ops n && decide (n < ops.size) && decide (i < n) && headB md ops n listed) = true)
    (hQ : ∀ c a w, Q (.panic c) (a.put oi.dst v) w → Q (.panic c) a w) (hy : YieldsIf P ops S oi v a) (hS : S w)
    (h : wpAnyT P md ops Q S n fuel (listed.setIfInBounds i true) (a.put oi.dst v) w) : wpAnyT P md ops Q S n (fuel + 1) listed a w := by
  simp only [Bool.and_eq_true, decide_eq_true_eq] at hok
  obtain ⟨⟨⟨⟨⟨⟨⟨h1, h2⟩, h3⟩, h4⟩, h5⟩, h6⟩, h7⟩, h8⟩ := hok
  exact wpAnyT_first hi (Region.noSelect_spec h1) hQ h4 h5 h6 h7 fuel listed a w (headB_spec h8) (Region.free_spec hi h2) (by simpa using h3) hy hS h
/-- The only one that may come up. -/
theorem wpAnyT_one {i : Nat} {o : Oper} {fuel : Nat} {listed : Array Bool} {a : Act} {w : World} (hr : Region.ready md ops listed = [i]) (ho : ops[i]? = some o)
    (h : ∀ K' : Act → World → Prop, Shut (∀ a w, (i < n → S w) → wpAnyT P md ops Q S n fuel (listed.setIfInBounds i true) a w → K' a w) → if Region.wanted o (yielded ops a.tmps) = true then Oper.wp P o a w K' Q else K' (a.put o.dst undef) w) :
    wpAnyT P md ops Q S n (fuel + 1) listed a w := by
  refine ⟨fun h0 => (by rw [hr] at h0; cases h0), fun j hj => ?_⟩
  rw [hr] at hj
  obtain rfl := List.mem_singleton.1 hj
  exact wpOp_step ho (fun K' hK => h K' (fun a w hS hW => hK a w ⟨hS, hW⟩))
/-- Two that may come up. -/
theorem wpAnyT_two {i j : Nat} {oi oj : Oper} {fuel : Nat} {listed : Array Bool} {a : Act} {w : World} (hr : Region.ready md ops listed = [i, j]) (hi : ops[i]? = some oi) (hj : ops[j]? = some oj)
    (h1 : ∀ K' : Act → World → Prop, Shut (∀ a w, (i < n → S w) → wpAnyT P md ops Q S n fuel (listed.setIfInBounds i true) a w → K' a w) → if Region.wanted oi (yielded ops a.tmps) = true then Oper.wp P oi a w K' Q else K' (a.put oi.dst undef) w)
    (h2 : ∀ K' : Act → World → Prop, Shut (∀ a w, (j < n → S w) → wpAnyT P md ops Q S n fuel (listed.setIfInBounds j true) a w → K' a w) → if Region.wanted oj (yielded ops a.tmps) = true then Oper.wp P oj a w K' Q else K' (a.put oj.dst undef) w) :
    wpAnyT P md ops Q S n (fuel + 1) listed a w := by
  refine ⟨fun h0 => (by rw [hr] at h0; cases h0), fun q hq => ?_⟩
  rw [hr] at hq
  rcases List.mem_cons.1 hq with rfl | hq
  · exact wpOp_step hi (fun K' hK => h1 K' (fun a w hS hW => hK a w ⟨hS, hW⟩))
  · obtain rfl := List.mem_singleton.1 hq
    exact wpOp_step hj (fun K' hK => h2 K' (fun a w hS hW => hK a w ⟨hS, hW⟩))
theorem wpAnyT_done {listed : Array Bool} {a : Act} {w : World} (hr : Region.ready md ops listed = []) (h : Q .normal a w) :
    ∀ fuel, wpAnyT P md ops Q S n fuel listed a w
  | 0 => ⟨hr, h⟩
  | _ + 1 => ⟨fun _ => h, by rw [hr]; simp⟩
theorem wp_region_tail (S : World → Prop) (n : Nat) {id : Nat} {a : Act} {w : World} (hm : P.follows .mixedOrders = true)
    (h : wpAnyT P .any ops Q S n ops.size (Array.replicate ops.size false) a w.drew) : (Code.region id ops true).wp P Q a w :=
  wp_region_any hm (wpAny_of_tail _ _ _ _ h)
end
end Go.Proofs.YtiedmlfiboalhaaGreat
