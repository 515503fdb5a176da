/-
  QLst9ToFil9: Lst9, Fil9, joined.
-/
import Derived.Test.YthpldhaolpmneaaGreatQExact0ToCells6
import Derived.Test.YthpldhaolpmneaaGreatQTailToMWord
import Derived.Deep.Slices
import Derived.Deep.AppendLies
import Derived.Deep.LoopGhost

/- Lst9 -/
namespace Go.Proofs.YthpldhaolpmneaaGreat
open Go.RowKit
set_option linter.unusedVariables false

/-- The slice value v holds these pairs of cells, in memory from block B on. -/
def Prs (B : Nat) (w : World) (v : Value) (ps : List (Value × Value)) : Prop :=
  ∃ a c, v = .slice a ps.length c ∧ ps.length ≤ c ∧ ps.length ≤ 1048576 ∧ (a = none → c = 0) ∧ (ps = [] ∨ ∃ b off, a = some ⟨b, off, none⟩ ∧ B ≤ b ∧ b < w.heap.size ∧ ∀ j p, ps[j]? = some p → w.cell? ⟨b, off + j * 2, none⟩ = some p.1 ∧ w.cell? ⟨b, off + j * 2 + 1, none⟩ = some p.2)
theorem Prs.now {B : Nat} {w w' : World} {v : Value} {ps : List (Value × Value)} (h : Prs B w v ps) (hb : Below w.heap.size w w') : Prs B w' v ps := by
  obtain ⟨a, c, h1, h2, h3, hx, h4⟩ := h
  refine ⟨a, c, h1, h2, h3, hx, ?_⟩
  rcases h4 with h4 | ⟨b, off, h5, h5', h6, h7⟩
  · exact .inl h4
  · exact .inr ⟨b, off, h5, h5', Nat.lt_of_lt_of_le h6 hb.size, fun j p hp => ⟨(hb.cell (p := ⟨b, off + j * 2, none⟩) h6).trans (h7 j p hp).1, (hb.cell (p := ⟨b, off + j * 2 + 1, none⟩) h6).trans (h7 j p hp).2⟩⟩
theorem Prs.form {B : Nat} {w : World} {v : Value} {ps : List (Value × Value)} (h : Prs B w v ps) : ∃ a c, v = .slice a ps.length c ∧ ps.length ≤ c ∧ ps.length ≤ 1048576 ∧ (a = none → c = 0) ∧ (ps ≠ [] → ∃ b off, a = some ⟨b, off, none⟩ ∧ B ≤ b ∧ b < w.heap.size) := by
  obtain ⟨a, c, h1, h2, h3, hx, h4⟩ := h
  refine ⟨a, c, h1, h2, h3, hx, fun hne => ?_⟩
  rcases h4 with h4 | ⟨b, off, h5, h5', h6, h7⟩
  · exact absurd h4 hne
  · exact ⟨b, off, h5, h5', h6⟩
theorem Prs.nil (B : Nat) (w : World) : Prs B w (.slice none 0 0) [] := ⟨none, 0, rfl, by simp, by simp, fun _ => rfl, .inl rfl⟩
/-- A piece of it. -/
theorem Prs.piece {B : Nat} {w : World} {b off l c : Nat} {ps : List (Value × Value)} (h : Prs B w (.slice (some ⟨b, off, none⟩) l c) ps) {i n : Nat} (hi : i + n ≤ ps.length) : Prs B w (.slice (some ⟨b, off + i * 2, none⟩) n (c - i)) ((ps.drop i).take n) := by
  obtain ⟨a', c', h1, h2, h3, hx, h4⟩ := h
  simp only [Value.slice.injEq] at h1
  obtain ⟨rfl, rfl, rfl⟩ := h1
  have e : ((ps.drop i).take n).length = n := by simp; omega
  refine ⟨_, _, by rw [e], by omega, by omega, (fun q => by cases q), ?_⟩
  rcases h4 with rfl | ⟨b', off', h5, h5', h6, h7⟩
  · exact .inl (by simp)
  · simp only [Option.some.injEq, Addr.mk.injEq, and_true] at h5
    obtain ⟨rfl, rfl⟩ := h5
    refine .inr ⟨b, off + i * 2, rfl, h5', h6, fun j p hp => ?_⟩
    rw [List.getElem?_take] at hp
    by_cases q : j < n
    · rw [if_pos q, List.getElem?_drop] at hp
      have := h7 (i + j) p hp
      rw [Nat.add_mul, ← Nat.add_assoc] at this
      exact this
    · rw [if_neg q] at hp; cases hp

/-- The pairs stand for these integers, in whatever form, or in least form. -/
def Zis (w : World) (ps : List (Value × Value)) (zs : List Int) (k : Nat) : Prop := ps.length = zs.length ∧ ∀ (j : Nat) (p : Value × Value) (z : Int), ps[j]? = some p → zs[j]? = some z → Zi w (.agg #[p.1, p.2]) z k
def Zcs (w : World) (ps : List (Value × Value)) (zs : List Int) (k : Nat) : Prop := ps.length = zs.length ∧ ∀ (j : Nat) (p : Value × Value) (z : Int), ps[j]? = some p → zs[j]? = some z → Zc w (.agg #[p.1, p.2]) z k
theorem Zcs.zis {w : World} {ps : List (Value × Value)} {zs : List Int} {k : Nat} (h : Zcs w ps zs k) : Zis w ps zs k := ⟨h.1, fun j p z hp hz => (h.2 j p z hp hz).zi⟩
theorem Zis.now {w w' : World} {ps : List (Value × Value)} {zs : List Int} {k : Nat} (h : Zis w ps zs k) (hb : Below w.heap.size w w') : Zis w' ps zs k := ⟨h.1, fun j p z hp hz => (h.2 j p z hp hz).now hb⟩
theorem Zcs.now {w w' : World} {ps : List (Value × Value)} {zs : List Int} {k : Nat} (h : Zcs w ps zs k) (hb : Below w.heap.size w w') : Zcs w' ps zs k := ⟨h.1, fun j p z hp hz => (h.2 j p z hp hz).now hb⟩
theorem Zcs.wk {w w' : World} {ps : List (Value × Value)} {zs : List Int} {k : Nat} (h : Zcs w ps zs k) (hb : Wk w w') : Zcs w' ps zs k := ⟨h.1, fun j p z hp hz => (h.2 j p z hp hz).wk hb⟩
theorem zl_of {B : Nat} {w : World} {v : Value} {ps : List (Value × Value)} {zs : List Int} {k : Nat} (h : Prs B w v ps) (hz : Zis w ps zs k) : Zl w v zs k := by
  obtain ⟨a, c, h1, h2, h3, -, h4⟩ := h
  obtain ⟨e, hz⟩ := hz
  refine ⟨a, c, by rw [← e]; exact h1, by omega, by omega, ?_⟩
  rcases h4 with h4 | ⟨b, off, h5, h5', h6, h7⟩
  · subst h4
    exact .inl (List.eq_nil_of_length_eq_zero (by simpa using e.symm))
  · refine .inr ⟨b, off, h5, h6, fun j hj => ?_⟩
    have hp : ps[j]? = some (ps[j]'(by omega)) := List.getElem?_eq_getElem (by omega)
    refine ⟨_, _, ?_, ?_, hz j _ _ hp (List.getElem?_eq_getElem hj)⟩
    · rw [Nat.mul_comm]; exact (h7 j _ hp).1
    · rw [Nat.mul_comm]; exact (h7 j _ hp).2
/-- The cells of pairs, one after the other. -/
def flat : List (Value × Value) → List Value
  | [] => []
  | p :: r => p.1 :: p.2 :: flat r
theorem flat_length : ∀ ps : List (Value × Value), (flat ps).length = ps.length * 2
  | [] => rfl
  | p :: r => by simp only [flat, List.length_cons, flat_length r]; omega
theorem flat_append : ∀ ps qs : List (Value × Value), flat (ps ++ qs) = flat ps ++ flat qs
  | [], qs => rfl
  | p :: r, qs => by simp only [flat, List.cons_append, flat_append r qs]
theorem flat_get : ∀ {ps : List (Value × Value)} {i : Nat} {p : Value × Value}, ps[i]? = some p → (flat ps)[i * 2]? = some p.1 ∧ (flat ps)[i * 2 + 1]? = some p.2
  | [], i, p, h => by simp at h
  | q :: r, 0, p, h => by
    simp only [List.getElem?_cons_zero, Option.some.injEq] at h
    subst h
    exact ⟨rfl, rfl⟩
  | q :: r, i + 1, p, h => by
    simp only [List.getElem?_cons_succ] at h
    have := flat_get h
    rw [show (i + 1) * 2 = i * 2 + 1 + 1 by omega]
    simp only [flat, List.getElem?_cons_succ]
    exact this
theorem flat_set : ∀ {ps : List (Value × Value)} {i : Nat} (p : Value × Value), i < ps.length → ((flat ps).set (i * 2) p.1).set (i * 2 + 1) p.2 = flat (ps.set i p)
  | [], i, p, h => by simp at h
  | q :: r, 0, p, h => rfl
  | q :: r, i + 1, p, h => by
    rw [show (i + 1) * 2 = i * 2 + 1 + 1 by omega]
    simp only [flat, List.set_cons_succ]
    rw [flat_set p (by simpa using h)]
def zpair : Value × Value := (.bool false, .slice none 0 0)
/-- A pair of an integer. -/
def IsI (p : Value × Value) : Prop := ∃ n a l c, p = (.bool n, .slice a l c)
theorem Zi.isI {w : World} {x y : Value} {z : Int} {k : Nat} (h : Zi w (.agg #[x, y]) z k) : IsI (x, y) := by
  obtain ⟨n, xs, a, c, e, _⟩ := h
  simp only [Value.agg.injEq, Array.mk.injEq, List.cons.injEq, and_true] at e
  obtain ⟨rfl, rfl⟩ := e
  exact ⟨n, a, xs.length, c, rfl⟩
/-- A block of these pairs. -/
def Arr (w : World) (g : Nat) (ps : List (Value × Value)) : Prop := Cel w g 45 (flat ps) ∧ ∀ p ∈ ps, IsI p
theorem Arr.step {w w' : World} {g : Nat} {ps : List (Value × Value)} (h : Arr w g ps) (hb : Below w.heap.size w w') : Arr w' g ps := ⟨h.1.step hb, h.2⟩
theorem Arr.at {w : World} {g : Nat} {ps : List (Value × Value)} (h : Arr w g ps) {i : Nat} {p : Value × Value} (hi : ps[i]? = some p) : w.cell? ⟨g, i * 2, none⟩ = some p.1 ∧ w.cell? ⟨g, i * 2 + 1, none⟩ = some p.2 := ⟨h.1.at (flat_get hi).1, h.1.at (flat_get hi).2⟩
theorem Arr.put {w : World} {g : Nat} {ps : List (Value × Value)} (h : Arr w g ps) {i : Nat} (hi : i < ps.length) {x y : Value} (hp : IsI (x, y)) : Arr ((w.setCell ⟨g, i * 2, none⟩ x).setCell ⟨g, i * 2 + 1, none⟩ y) g (ps.set i (x, y)) := by
  refine ⟨?_, fun p hp' => ?_⟩
  · rw [← flat_set (x, y) hi]
    exact (h.1.set _ _).set _ _
  · rcases List.mem_or_eq_of_mem_set hp' with q | rfl
    · exact h.2 p q
    · exact hp
theorem Arr.wk {w : World} {g : Nat} {ps : List (Value × Value)} (h : Arr w g ps) {i : Nat} (hi : i < ps.length) (x y : Value) : Wk w ((w.setCell ⟨g, i * 2, none⟩ x).setCell ⟨g, i * 2 + 1, none⟩ y) := by
  have e := flat_get (List.getElem?_eq_getElem hi)
  obtain ⟨n, a, l, c, q⟩ := h.2 _ (List.getElem_mem hi)
  rw [q] at e
  refine (h.1.wk e.1 (noB n) x).trans ((h.1.set _ _).wk (u := .slice a l c) ?_ (noS a l c) y)
  rw [List.getElem?_set_ne (by omega)]
  exact e.2
/-- As a list. -/
theorem Arr.prs {w : World} {g : Nat} {ps : List (Value × Value)} (h : Arr w g ps) {B : Nat} (hB : B ≤ g) (hl : ps.length ≤ 1048576) {cap : Nat} (hc : ps.length ≤ cap) : Prs B w (.slice (some ⟨g, 0, none⟩) ps.length cap) ps :=
  ⟨_, _, rfl, hc, hl, (fun q => by cases q), .inr ⟨g, 0, rfl, hB, h.1.blk, fun j p hp => by rw [Nat.zero_add]; exact h.at hp⟩⟩
theorem Tryz.infoZ9 : (Tryz.prog.info? 45).map (fun i => (i.zero, i.size, i.bytes)) = some (some (.agg #[.bool false, .slice none 0 0]), 2, 32) := by kernel_rfl
theorem flat_zero : ∀ m : Nat, flat (List.replicate m zpair) = (List.range (m * 2)).map (fun i => if i % 2 = 0 then Value.bool false else Value.slice none 0 0)
  | 0 => rfl
  | m + 1 => by
    rw [List.replicate_succ', flat_append, flat_zero m, show (m + 1) * 2 = m * 2 + 1 + 1 by omega, List.range_succ, List.range_succ]
    simp [flat, zpair]
theorem madeCells_pairs9 (m : Nat) : madeCells (Value.agg #[.bool false, .slice none 0 0]).cells (m * 2) = (flat (List.replicate m zpair)).toArray := by
  rw [flat_zero]
  apply Array.ext
  · simp [size_madeCells, Value.cells]
  · intro i h1 h2
    have : i % 2 = 0 ∨ i % 2 = 1 := by omega
    rcases this with q | q <;> simp [madeCells, Value.cells, q]
theorem wpList_make_pairs9 (w : World) {ops : Array Oper} {rest : List Oper} {o : Oper} {a : Act} {Q : Exit → Act → World → Prop}
    (hg : o.guard = none) (l c : Operand) (hop : o.op = Op.makeSlice 33 l c)
    (L C : Int) (n m : Nat) (hl : a.eval l = .int .i64 L) (hc : a.eval c = .int .i64 C) (hL : L = (n : Int)) (hC : C = (m : Int)) (hnm : n ≤ m) (hm : m ≤ 2000000)
    (hK : ∀ w', Arr w' w.heap.size (List.replicate m zpair) → Below w.heap.size w w' → Hid (w'.heap.size = w.heap.size + 1) → wpList Tryz.prog ops Q rest (a.put o.dst (.slice (some ⟨w.heap.size, 0, none⟩) n m)) w') :
    wpList Tryz.prog ops Q (o :: rest) a w := by
  refine wpList_plain hg fun K hK' => ?_
  obtain ⟨i, hi, hz, hs, hb⟩ := info_parts Tryz.infoZ9
  have hrun := run_make (P := Tryz.prog) w 33 45 i (.agg #[.bool false, .slice none 0 0]) Tryz.underlying33 hi hz .i64 .i64 n m (by omega) (by omega) (by rw [hb]; omega) (by omega)
  subst hL
  subst hC
  rw [hs, Int.toNat_natCast, Int.toNat_natCast] at hrun
  rw [madeCells_pairs9] at hrun
  unfold Oper.wp
  simp [execOp, hop, hl, hc, hrun, Result.andThen]
  refine hK' _ _ (hK _ ⟨?_, fun p hp => ?_⟩ ((Below.refl _ _).alloc (Nat.le_refl _) _) ?_)
  · unfold Cel; exact heap_alloc_new w _
  · rw [List.eq_of_mem_replicate hp]; exact ⟨false, none, 0, 0, rfl⟩
  · unfold Hid; simp
theorem Tryz.infoL9 : (Tryz.prog.info? 33).map (fun i => (i.zero, i.size, i.bytes)) = some (some (.slice none 0 0), 1, 24) := by kernel_rfl
theorem madeCells_lists9 (m : Nat) : madeCells (Value.slice none 0 0).cells m = (List.replicate m (Value.slice none 0 0)).toArray := by
  apply Array.ext
  · simp [size_madeCells]
  · intro i h1 h2
    simp [madeCells, Value.cells, Nat.mod_one]
theorem alo1 (w : World) (o1 : Obj) : Below w.heap.size w (w.alloc o1) ∧ (w.alloc o1).heap.size = w.heap.size + 1 := ⟨(Below.refl _ _).alloc (Nat.le_refl _) _, by simp⟩
theorem wrapI9 {i : Nat} (h : i ≤ 1048576) : IntKind.i64.wrap ((i : Int) + 1) = ((i + 1 : Nat) : Int) := by rw [wrap_is] <;> omega
end Go.Proofs.YthpldhaolpmneaaGreat

/- Fil9 -/
namespace Go.Proofs.YthpldhaolpmneaaGreat
open Go.RowKit
set_option linter.unusedVariables false

def Fil (wx : World) (g n i : Nat) (F : Nat → Int) (k : Nat) : Prop := ∃ ps, Arr wx g ps ∧ ps.length = n ∧ ∀ (j : Nat) (p : Value × Value), j < i → ps[j]? = some p → Zc wx (.agg #[p.1, p.2]) (F j) k
theorem Fil.start {w : World} {g n : Nat} (h : Arr w g (List.replicate n zpair)) (F : Nat → Int) (k : Nat) : Fil w g n 0 F k := ⟨_, h, by simp, fun j p hj => by omega⟩
theorem Fil.step {w w' : World} {g n i : Nat} {F : Nat → Int} {k : Nat} (h : Fil w g n i F k) (hb : Below w.heap.size w w') : Fil w' g n i F k := by
  obtain ⟨ps, h1, h2, h3⟩ := h
  exact ⟨ps, h1.step hb, h2, fun j p hj hp => (h3 j p hj hp).now hb⟩
theorem Fil.put {w : World} {g n i : Nat} {F : Nat → Int} {k : Nat} {x y : Value} (h : Fil w g n i F k) (hi : i < n) (hz : Zc w (.agg #[x, y]) (F i) k) : Fil ((w.setCell ⟨g, i * 2, none⟩ x).setCell ⟨g, i * 2 + 1, none⟩ y) g n (i + 1) F k := by
  obtain ⟨ps, h1, h2, h3⟩ := h
  have hw := h1.wk (i := i) (by omega) x y
  refine ⟨ps.set i (x, y), h1.put (by omega) hz.zi.isI, by simpa using h2, fun j p hj hp => ?_⟩
  by_cases q : j = i
  · subst q
    rw [List.getElem?_set_self (by omega), Option.some.injEq] at hp
    subst hp
    exact hz.wk hw
  · rw [List.getElem?_set_ne (by omega)] at hp
    exact (h3 j p (by omega) hp).wk hw
theorem Fil.cells {w : World} {g n i j : Nat} {F : Nat → Int} {k : Nat} (h : Fil w g n i F k) (hj : j < n) : ∃ m a l c, w.cell? ⟨g, j * 2, none⟩ = some (.bool m) ∧ w.cell? ⟨g, j * 2 + 1, none⟩ = some (.slice a l c) ∧ w.frozen? ⟨g, j * 2, none⟩ = false ∧ w.frozen? ⟨g, j * 2 + 1, none⟩ = false := by
  obtain ⟨ps, h1, h2, h3⟩ := h
  have hp : ps[j]? = some (ps[j]'(by omega)) := List.getElem?_eq_getElem (by omega)
  obtain ⟨m, a, l, c, e⟩ := h1.2 _ (List.getElem_mem (l := ps) (n := j) (by omega))
  have q := h1.at hp
  rw [e] at q
  exact ⟨m, a, l, c, q.1, q.2, h1.1.fz _, h1.1.fz _⟩
theorem Fil.done {w : World} {g n : Nat} {F : Nat → Int} {k : Nat} (h : Fil w g n n F k) {B : Nat} (hB : B ≤ g) (hn : n ≤ 1048576) : ∃ ps, Prs B w (.slice (some ⟨g, 0, none⟩) n n) ps ∧ Zcs w ps ((List.range n).map F) k := by
  obtain ⟨ps, h1, rfl, h3⟩ := h
  refine ⟨ps, h1.prs hB hn (Nat.le_refl _), by simp, fun j p z hp hz => ?_⟩
  have hj : j < ps.length := (List.getElem?_eq_some_iff.1 hp).1
  rw [List.getElem?_map, List.getElem?_range hj, Option.map_some, Option.some.injEq] at hz
  subst hz
  exact h3 j p hj hp
theorem Zl.form9 {w : World} {v : Value} {zs : List Int} {k : Nat} (h : Zl w v zs k) : ∃ a c, v = .slice a zs.length c ∧ zs.length ≤ c ∧ zs.length ≤ 1048576 ∧ (zs ≠ [] → ∃ b off, a = some ⟨b, off, none⟩) := by
  obtain ⟨a, c, h1, h2, h3, h4⟩ := h
  refine ⟨a, c, h1, h2, h3, fun hne => ?_⟩
  rcases h4 with h4 | ⟨b, off, h5, _⟩
  · exact absurd h4 hne
  · exact ⟨b, off, h5⟩
theorem Zl.at9 {w : World} {b off l c : Nat} {zs : List Int} {k : Nat} (h : Zl w (.slice (some ⟨b, off, none⟩) l c) zs k) {i : Nat} (hi : i < zs.length) : ∃ n, ∃ xs : List Int, ∃ a c, w.cell? ⟨b, off + i * 2, none⟩ = some (.bool n) ∧ w.cell? ⟨b, off + i * 2 + 1, none⟩ = some (.slice a xs.length c) ∧ Zi w (.agg #[.bool n, .slice a xs.length c]) zs[i] k := by
  obtain ⟨a', c', h1, h2, h3, h4⟩ := h
  rcases h4 with h4 | ⟨b', off', h5, h6, h7⟩
  · subst h4; simp at hi
  · simp only [Value.slice.injEq] at h1
    obtain ⟨rfl, -, -⟩ := h1
    simp only [Option.some.injEq, Addr.mk.injEq, and_true] at h5
    obtain ⟨rfl, rfl⟩ := h5
    obtain ⟨x, y, q1, q2, q3⟩ := h7 i hi
    have q3' := q3
    obtain ⟨n, xs, a, c, e, -⟩ := q3
    simp only [Value.agg.injEq, Array.mk.injEq, List.cons.injEq, and_true] at e
    obtain ⟨rfl, rfl⟩ := e
    rw [Nat.mul_comm 2 i] at q1 q2
    exact ⟨n, xs, a, c, q1, q2, q3'⟩
theorem Zm.parts {B : Nat} {w : World} {v : Value} {z : Int} {k : Nat} (h : Zm B w v z k) : ∃ n, ∃ xs : List Int, ∃ a c, v = .agg #[.bool n, .slice a xs.length c] := by
  obtain ⟨n, xs, a, c, e, -⟩ := h
  exact ⟨n, xs, a, c, e⟩
end Go.Proofs.YthpldhaolpmneaaGreat
