/-
  QLst9ToRowsOf9: Lst9, Fil9, Dot9, Rows9, RowsOf9, joined.
-/
import Derived.Test.YtcceoildbnoliaaGreatQExact0ToCells6
import Derived.Test.YtcceoildbnoliaaGreatQTailToMWord
import Derived.Deep.Slices
import Derived.Deep.AppendLies
import Derived.Deep.LoopGhost

/- Lst9 -/
namespace Go.Proofs.YtcceoildbnoliaaGreat
open Go.RowKit
set_option linter.unusedVariables false

/-- The slice value v holds these pairs of cells, in memory from block B on. -/
def Prs (B : Nat) (w : World) (v : Value) (ps : List (Value × Value)) : Prop :=
  ∃ a c, v = .slice a ps.length c ∧ ps.length ≤ c ∧ ps.length ≤ 1048576 ∧ (a = none → c = 0) ∧ (ps = [] ∨ ∃ b off, a = some ⟨b, off, none⟩ ∧ B ≤ b ∧ b < w.heap.size ∧ ∀ j p, ps[j]? = some p → w.cell? ⟨b, off + j * 2, none⟩ = some p.1 ∧ w.cell? ⟨b, off + j * 2 + 1, none⟩ = some p.2)
theorem Prs.now {B : Nat} {w w' : World} {v : Value} {ps : List (Value × Value)} (h : Prs B w v ps) (hb : Below w.heap.size w w') : Prs B w' v ps := by
  obtain ⟨a, c, h1, h2, h3, hx, h4⟩ := h
  refine ⟨a, c, h1, h2, h3, hx, ?_⟩
  rcases h4 with h4 | ⟨b, off, h5, h5', h6, h7⟩
  · exact .inl h4
  · exact .inr ⟨b, off, h5, h5', Nat.lt_of_lt_of_le h6 hb.size, fun j p hp => ⟨(hb.cell (p := ⟨b, off + j * 2, none⟩) h6).trans (h7 j p hp).1, (hb.cell (p := ⟨b, off + j * 2 + 1, none⟩) h6).trans (h7 j p hp).2⟩⟩
theorem Prs.form {B : Nat} {w : World} {v : Value} {ps : List (Value × Value)} (h : Prs B w v ps) : ∃ a c, v = .slice a ps.length c ∧ ps.length ≤ c ∧ ps.length ≤ 1048576 ∧ (a = none → c = 0) ∧ (ps ≠ [] → ∃ b off, a = some ⟨b, off, none⟩ ∧ B ≤ b ∧ b < w.heap.size) := by
  obtain ⟨a, c, h1, h2, h3, hx, h4⟩ := h
  refine ⟨a, c, h1, h2, h3, hx, fun hne => ?_⟩
  rcases h4 with h4 | ⟨b, off, h5, h5', h6, h7⟩
  · exact absurd h4 hne
  · exact ⟨b, off, h5, h5', h6⟩
theorem Prs.nil (B : Nat) (w : World) : Prs B w (.slice none 0 0) [] := ⟨none, 0, rfl, by simp, by simp, fun _ => rfl, .inl rfl⟩
/-- The pairs stand for these integers, in whatever form, or in least form. -/
def Zis (w : World) (ps : List (Value × Value)) (zs : List Int) (k : Nat) : Prop := ps.length = zs.length ∧ ∀ (j : Nat) (p : Value × Value) (z : Int), ps[j]? = some p → zs[j]? = some z → Zi w (.agg #[p.1, p.2]) z k
def Zcs (w : World) (ps : List (Value × Value)) (zs : List Int) (k : Nat) : Prop := ps.length = zs.length ∧ ∀ (j : Nat) (p : Value × Value) (z : Int), ps[j]? = some p → zs[j]? = some z → Zc w (.agg #[p.1, p.2]) z k
theorem Zcs.zis {w : World} {ps : List (Value × Value)} {zs : List Int} {k : Nat} (h : Zcs w ps zs k) : Zis w ps zs k := ⟨h.1, fun j p z hp hz => (h.2 j p z hp hz).zi⟩
theorem zl_of {B : Nat} {w : World} {v : Value} {ps : List (Value × Value)} {zs : List Int} {k : Nat} (h : Prs B w v ps) (hz : Zis w ps zs k) : Zl w v zs k := by
  obtain ⟨a, c, h1, h2, h3, -, h4⟩ := h
  obtain ⟨e, hz⟩ := hz
  refine ⟨a, c, by rw [← e]; exact h1, by omega, by omega, ?_⟩
  rcases h4 with h4 | ⟨b, off, h5, h5', h6, h7⟩
  · subst h4
    exact .inl (List.eq_nil_of_length_eq_zero (by simpa using e.symm))
  · refine .inr ⟨b, off, h5, h6, fun j hj => ?_⟩
    have hp : ps[j]? = some (ps[j]'(by omega)) := List.getElem?_eq_getElem (by omega)
    refine ⟨_, _, ?_, ?_, hz j _ _ hp (List.getElem?_eq_getElem hj)⟩
    · rw [Nat.mul_comm]; exact (h7 j _ hp).1
    · rw [Nat.mul_comm]; exact (h7 j _ hp).2
/-- The cells of pairs, one after the other. -/
def flat : List (Value × Value) → List Value
  | [] => []
  | p :: r => p.1 :: p.2 :: flat r
theorem flat_length : ∀ ps : List (Value × Value), (flat ps).length = ps.length * 2
  | [] => rfl
  | p :: r => by simp only [flat, List.length_cons, flat_length r]; omega
theorem flat_append : ∀ ps qs : List (Value × Value), flat (ps ++ qs) = flat ps ++ flat qs
  | [], qs => rfl
  | p :: r, qs => by simp only [flat, List.cons_append, flat_append r qs]
theorem flat_get : ∀ {ps : List (Value × Value)} {i : Nat} {p : Value × Value}, ps[i]? = some p → (flat ps)[i * 2]? = some p.1 ∧ (flat ps)[i * 2 + 1]? = some p.2
  | [], i, p, h => by simp at h
  | q :: r, 0, p, h => by
    simp only [List.getElem?_cons_zero, Option.some.injEq] at h
    subst h
    exact ⟨rfl, rfl⟩
  | q :: r, i + 1, p, h => by
    simp only [List.getElem?_cons_succ] at h
    have := flat_get h
    rw [show (i + 1) * 2 = i * 2 + 1 + 1 by omega]
    simp only [flat, List.getElem?_cons_succ]
    exact this
theorem flat_set : ∀ {ps : List (Value × Value)} {i : Nat} (p : Value × Value), i < ps.length → ((flat ps).set (i * 2) p.1).set (i * 2 + 1) p.2 = flat (ps.set i p)
  | [], i, p, h => by simp at h
  | q :: r, 0, p, h => rfl
  | q :: r, i + 1, p, h => by
    rw [show (i + 1) * 2 = i * 2 + 1 + 1 by omega]
    simp only [flat, List.set_cons_succ]
    rw [flat_set p (by simpa using h)]
def zpair : Value × Value := (.bool false, .slice none 0 0)
/-- A pair of an integer. -/
def IsI (p : Value × Value) : Prop := ∃ n a l c, p = (.bool n, .slice a l c)
theorem Zi.isI {w : World} {x y : Value} {z : Int} {k : Nat} (h : Zi w (.agg #[x, y]) z k) : IsI (x, y) := by
  obtain ⟨n, xs, a, c, e, _⟩ := h
  simp only [Value.agg.injEq, Array.mk.injEq, List.cons.injEq, and_true] at e
  obtain ⟨rfl, rfl⟩ := e
  exact ⟨n, a, xs.length, c, rfl⟩
/-- A block of these pairs. -/
def Arr (w : World) (g : Nat) (ps : List (Value × Value)) : Prop := Cel w g 45 (flat ps) ∧ ∀ p ∈ ps, IsI p
theorem Arr.step {w w' : World} {g : Nat} {ps : List (Value × Value)} (h : Arr w g ps) (hb : Below w.heap.size w w') : Arr w' g ps := ⟨h.1.step hb, h.2⟩
theorem Arr.at {w : World} {g : Nat} {ps : List (Value × Value)} (h : Arr w g ps) {i : Nat} {p : Value × Value} (hi : ps[i]? = some p) : w.cell? ⟨g, i * 2, none⟩ = some p.1 ∧ w.cell? ⟨g, i * 2 + 1, none⟩ = some p.2 := ⟨h.1.at (flat_get hi).1, h.1.at (flat_get hi).2⟩
theorem Arr.put {w : World} {g : Nat} {ps : List (Value × Value)} (h : Arr w g ps) {i : Nat} (hi : i < ps.length) {x y : Value} (hp : IsI (x, y)) : Arr ((w.setCell ⟨g, i * 2, none⟩ x).setCell ⟨g, i * 2 + 1, none⟩ y) g (ps.set i (x, y)) := by
  refine ⟨?_, fun p hp' => ?_⟩
  · rw [← flat_set (x, y) hi]
    exact (h.1.set _ _).set _ _
  · rcases List.mem_or_eq_of_mem_set hp' with q | rfl
    · exact h.2 p q
    · exact hp
theorem Arr.wk {w : World} {g : Nat} {ps : List (Value × Value)} (h : Arr w g ps) {i : Nat} (hi : i < ps.length) (x y : Value) : Wk w ((w.setCell ⟨g, i * 2, none⟩ x).setCell ⟨g, i * 2 + 1, none⟩ y) := by
  have e := flat_get (List.getElem?_eq_getElem hi)
  obtain ⟨n, a, l, c, q⟩ := h.2 _ (List.getElem_mem hi)
  rw [q] at e
  refine (h.1.wk e.1 (noB n) x).trans ((h.1.set _ _).wk (u := .slice a l c) ?_ (noS a l c) y)
  rw [List.getElem?_set_ne (by omega)]
  exact e.2
/-- As a list. -/
theorem Arr.prs {w : World} {g : Nat} {ps : List (Value × Value)} (h : Arr w g ps) {B : Nat} (hB : B ≤ g) (hl : ps.length ≤ 1048576) {cap : Nat} (hc : ps.length ≤ cap) : Prs B w (.slice (some ⟨g, 0, none⟩) ps.length cap) ps :=
  ⟨_, _, rfl, hc, hl, (fun q => by cases q), .inr ⟨g, 0, rfl, hB, h.1.blk, fun j p hp => by rw [Nat.zero_add]; exact h.at hp⟩⟩
theorem Tryz.infoZ9 : (Tryz.prog.info? 45).map (fun i => (i.zero, i.size, i.bytes)) = some (some (.agg #[.bool false, .slice none 0 0]), 2, 32) := by kernel_rfl
theorem flat_zero : ∀ m : Nat, flat (List.replicate m zpair) = (List.range (m * 2)).map (fun i => if i % 2 = 0 then Value.bool false else Value.slice none 0 0)
  | 0 => rfl
  | m + 1 => by
    rw [List.replicate_succ', flat_append, flat_zero m, show (m + 1) * 2 = m * 2 + 1 + 1 by omega, List.range_succ, List.range_succ]
    simp [flat, zpair]
theorem madeCells_pairs9 (m : Nat) : madeCells (Value.agg #[.bool false, .slice none 0 0]).cells (m * 2) = (flat (List.replicate m zpair)).toArray := by
  rw [flat_zero]
  apply Array.ext
  · simp [size_madeCells, Value.cells]
  · intro i h1 h2
    have : i % 2 = 0 ∨ i % 2 = 1 := by omega
    rcases this with q | q <;> simp [madeCells, Value.cells, q]
theorem wpList_make_pairs9 (w : World) {ops : Array Oper} {rest : List Oper} {o : Oper} {a : Act} {Q : Exit → Act → World → Prop}
    (hg : o.guard = none) (l c : Operand) (hop : o.op = Op.makeSlice 33 l c)
    (L C : Int) (n m : Nat) (hl : a.eval l = .int .i64 L) (hc : a.eval c = .int .i64 C) (hL : L = (n : Int)) (hC : C = (m : Int)) (hnm : n ≤ m) (hm : m ≤ 2000000)
    (hK : ∀ w', Arr w' w.heap.size (List.replicate m zpair) → Below w.heap.size w w' → Hid (w'.heap.size = w.heap.size + 1) → wpList Tryz.prog ops Q rest (a.put o.dst (.slice (some ⟨w.heap.size, 0, none⟩) n m)) w') :
    wpList Tryz.prog ops Q (o :: rest) a w := by
  refine wpList_plain hg fun K hK' => ?_
  obtain ⟨i, hi, hz, hs, hb⟩ := info_parts Tryz.infoZ9
  have hrun := run_make (P := Tryz.prog) w 33 45 i (.agg #[.bool false, .slice none 0 0]) Tryz.underlying33 hi hz .i64 .i64 n m (by omega) (by omega) (by rw [hb]; omega) (by omega)
  subst hL
  subst hC
  rw [hs, Int.toNat_natCast, Int.toNat_natCast] at hrun
  rw [madeCells_pairs9] at hrun
  unfold Oper.wp
  simp [execOp, hop, hl, hc, hrun, Result.andThen]
  refine hK' _ _ (hK _ ⟨?_, fun p hp => ?_⟩ ((Below.refl _ _).alloc (Nat.le_refl _) _) ?_)
  · unfold Cel; exact heap_alloc_new w _
  · rw [List.eq_of_mem_replicate hp]; exact ⟨false, none, 0, 0, rfl⟩
  · unfold Hid; simp
theorem Tryz.infoL9 : (Tryz.prog.info? 33).map (fun i => (i.zero, i.size, i.bytes)) = some (some (.slice none 0 0), 1, 24) := by kernel_rfl
theorem madeCells_lists9 (m : Nat) : madeCells (Value.slice none 0 0).cells m = (List.replicate m (Value.slice none 0 0)).toArray := by
  apply Array.ext
  · simp [size_madeCells]
  · intro i h1 h2
    simp [madeCells, Value.cells, Nat.mod_one]
theorem alo1 (w : World) (o1 : Obj) : Below w.heap.size w (w.alloc o1) ∧ (w.alloc o1).heap.size = w.heap.size + 1 := ⟨(Below.refl _ _).alloc (Nat.le_refl _) _, by simp⟩
theorem wrapI9 {i : Nat} (h : i ≤ 1048576) : IntKind.i64.wrap ((i : Int) + 1) = ((i + 1 : Nat) : Int) := by rw [wrap_is] <;> omega
end Go.Proofs.YtcceoildbnoliaaGreat

/- Fil9 -/
namespace Go.Proofs.YtcceoildbnoliaaGreat
open Go.RowKit
set_option linter.unusedVariables false

def Fil (wx : World) (g n i : Nat) (F : Nat → Int) (k : Nat) : Prop := ∃ ps, Arr wx g ps ∧ ps.length = n ∧ ∀ (j : Nat) (p : Value × Value), j < i → ps[j]? = some p → Zc wx (.agg #[p.1, p.2]) (F j) k
theorem Fil.start {w : World} {g n : Nat} (h : Arr w g (List.replicate n zpair)) (F : Nat → Int) (k : Nat) : Fil w g n 0 F k := ⟨_, h, by simp, fun j p hj => by omega⟩
theorem Fil.step {w w' : World} {g n i : Nat} {F : Nat → Int} {k : Nat} (h : Fil w g n i F k) (hb : Below w.heap.size w w') : Fil w' g n i F k := by
  obtain ⟨ps, h1, h2, h3⟩ := h
  exact ⟨ps, h1.step hb, h2, fun j p hj hp => (h3 j p hj hp).now hb⟩
theorem Fil.put {w : World} {g n i : Nat} {F : Nat → Int} {k : Nat} {x y : Value} (h : Fil w g n i F k) (hi : i < n) (hz : Zc w (.agg #[x, y]) (F i) k) : Fil ((w.setCell ⟨g, i * 2, none⟩ x).setCell ⟨g, i * 2 + 1, none⟩ y) g n (i + 1) F k := by
  obtain ⟨ps, h1, h2, h3⟩ := h
  have hw := h1.wk (i := i) (by omega) x y
  refine ⟨ps.set i (x, y), h1.put (by omega) hz.zi.isI, by simpa using h2, fun j p hj hp => ?_⟩
  by_cases q : j = i
  · subst q
    rw [List.getElem?_set_self (by omega), Option.some.injEq] at hp
    subst hp
    exact hz.wk hw
  · rw [List.getElem?_set_ne (by omega)] at hp
    exact (h3 j p (by omega) hp).wk hw
theorem Fil.cells {w : World} {g n i j : Nat} {F : Nat → Int} {k : Nat} (h : Fil w g n i F k) (hj : j < n) : ∃ m a l c, w.cell? ⟨g, j * 2, none⟩ = some (.bool m) ∧ w.cell? ⟨g, j * 2 + 1, none⟩ = some (.slice a l c) ∧ w.frozen? ⟨g, j * 2, none⟩ = false ∧ w.frozen? ⟨g, j * 2 + 1, none⟩ = false := by
  obtain ⟨ps, h1, h2, h3⟩ := h
  have hp : ps[j]? = some (ps[j]'(by omega)) := List.getElem?_eq_getElem (by omega)
  obtain ⟨m, a, l, c, e⟩ := h1.2 _ (List.getElem_mem (l := ps) (n := j) (by omega))
  have q := h1.at hp
  rw [e] at q
  exact ⟨m, a, l, c, q.1, q.2, h1.1.fz _, h1.1.fz _⟩
theorem Fil.done {w : World} {g n : Nat} {F : Nat → Int} {k : Nat} (h : Fil w g n n F k) {B : Nat} (hB : B ≤ g) (hn : n ≤ 1048576) : ∃ ps, Prs B w (.slice (some ⟨g, 0, none⟩) n n) ps ∧ Zcs w ps ((List.range n).map F) k := by
  obtain ⟨ps, h1, rfl, h3⟩ := h
  refine ⟨ps, h1.prs hB hn (Nat.le_refl _), by simp, fun j p z hp hz => ?_⟩
  have hj : j < ps.length := (List.getElem?_eq_some_iff.1 hp).1
  rw [List.getElem?_map, List.getElem?_range hj, Option.map_some, Option.some.injEq] at hz
  subst hz
  exact h3 j p hj hp
theorem Zl.form9 {w : World} {v : Value} {zs : List Int} {k : Nat} (h : Zl w v zs k) : ∃ a c, v = .slice a zs.length c ∧ zs.length ≤ c ∧ zs.length ≤ 1048576 ∧ (zs ≠ [] → ∃ b off, a = some ⟨b, off, none⟩) := by
  obtain ⟨a, c, h1, h2, h3, h4⟩ := h
  refine ⟨a, c, h1, h2, h3, fun hne => ?_⟩
  rcases h4 with h4 | ⟨b, off, h5, _⟩
  · exact absurd h4 hne
  · exact ⟨b, off, h5⟩
theorem Zl.at9 {w : World} {b off l c : Nat} {zs : List Int} {k : Nat} (h : Zl w (.slice (some ⟨b, off, none⟩) l c) zs k) {i : Nat} (hi : i < zs.length) : ∃ n, ∃ xs : List Int, ∃ a c, w.cell? ⟨b, off + i * 2, none⟩ = some (.bool n) ∧ w.cell? ⟨b, off + i * 2 + 1, none⟩ = some (.slice a xs.length c) ∧ Zi w (.agg #[.bool n, .slice a xs.length c]) zs[i] k := by
  obtain ⟨a', c', h1, h2, h3, h4⟩ := h
  rcases h4 with h4 | ⟨b', off', h5, h6, h7⟩
  · subst h4; simp at hi
  · simp only [Value.slice.injEq] at h1
    obtain ⟨rfl, -, -⟩ := h1
    simp only [Option.some.injEq, Addr.mk.injEq, and_true] at h5
    obtain ⟨rfl, rfl⟩ := h5
    obtain ⟨x, y, q1, q2, q3⟩ := h7 i hi
    have q3' := q3
    obtain ⟨n, xs, a, c, e, -⟩ := q3
    simp only [Value.agg.injEq, Array.mk.injEq, List.cons.injEq, and_true] at e
    obtain ⟨rfl, rfl⟩ := e
    rw [Nat.mul_comm 2 i] at q1 q2
    exact ⟨n, xs, a, c, q1, q2, q3'⟩
theorem Zm.parts {B : Nat} {w : World} {v : Value} {z : Int} {k : Nat} (h : Zm B w v z k) : ∃ n, ∃ xs : List Int, ∃ a c, v = .agg #[.bool n, .slice a xs.length c] := by
  obtain ⟨n, xs, a, c, e, -⟩ := h
  exact ⟨n, xs, a, c, e⟩
end Go.Proofs.YtcceoildbnoliaaGreat

/- Dot9 -/
namespace Go.Proofs.YtcceoildbnoliaaGreat
open Go.RowKit
set_option linter.unusedVariables false

theorem cnow {w w' : World} {p : Addr} {v : Value} (h : Below w.heap.size w w') (k : w.cell? p = some v) : w'.cell? p = some v := (h.cell (World.block_lt_of_cell? w p k)).trans k
theorem getD_at {xs : List Int} {i : Nat} (h : i < xs.length) : xs[i] = xs.getD i 0 := by simp [h]
def dotv (xs ys : List Int) : Int := zsum ((List.range xs.length).map fun j => xs.getD j 0 * ys.getD j 0)
def DotH (w : World) (g n : Nat) (F : Nat → Int) (k gk : Nat) (s : Value) (wx : World) : Prop :=
  ∃ i : Nat, s = .int .i64 (i : Int) ∧ i ≤ n ∧ gk = n - i ∧ Fil wx g n i F k ∧ Duo wx w.heap.size (.bool false) (.slice none 0 0) ∧ Below w.heap.size w wx
def Dotted (w : World) (z : Int) (k : Nat) (e : Ending) (w' : World) : Prop := ∃ r, e = .returned (.tuple #[r, .int .i64 0]) ∧ Zm w.heap.size w' r z k ∧ Below w.heap.size w w'
set_option maxHeartbeats 1600000 in
set_option maxRecDepth 100000 in
theorem dot_any {w : World} {va vb : Value} {xs ys : List Int} {k l : Nat} (ha : Zl w va xs k) (hb : Zl w vb ys l) (he : ys.length = xs.length) (hk : k + l + xs.length < 35184372088832) :
    Calls Tryz.prog 51 #[va, vb] w (Dotted w (dotv xs ys) (k + l + xs.length)) := by
  have A0 := hid ha
  have B0 := hid hb
  obtain ⟨a0, c0, rfl, hc0, hn0, hf0⟩ := ha.form9
  obtain ⟨a1, c1, rfl, hc1, hn1, hf1⟩ := hb.form9
  have DV : Hid (dotv xs ys = zsum ((List.range xs.length).map fun j => xs.getD j 0 * ys.getD j 0)) := rfl
  obtain ⟨D, hD⟩ : ∃ D, dotv xs ys = D := ⟨_, rfl⟩
  rw [hD] at DV ⊢
  obtain ⟨n, hn⟩ : ∃ n, xs.length = n := ⟨_, rfl⟩
  rw [he] at hc1 hn1 B0 ⊢
  rw [hn] at A0 B0 hc0 hn0 hc1 hn1 hk DV ⊢
  have HN := hid hn
  have HE := hid (he.trans hn)
  have F0 := hid hf0
  have F1 := hid hf1
  clear ha hb hf0 hf1 hn he hD
  obtain ⟨W0, hW⟩ : ∃ W0, w.alloc zbox = W0 := ⟨_, rfl⟩
  obtain ⟨b0, sz0⟩ := alo1 w zbox
  rw [hW] at b0 sz0
  have P4 : Hid (Duo W0 w.heap.size (.bool false) (.slice none 0 0)) := by unfold Hid; rw [← hW]; exact Duo.new w _ _
  have G0 := hid b0
  have EW := hid hW
  have SZ := hid sz0
  have q0 : ((n : Int) != (n : Int)) = false := by simp
  clear b0 hW sz0
  go_enter Tryz.func51, Tryz.ntmps51
  go_wp2_with (at_make; rw [EW.out]; refine wpList_make_pairs9 _ rfl _ _ rfl _ _ n n rfl rfl rfl rfl (Nat.le_refl _) (by omega) ?_)
  intro w1 hrow hb1 hsz1
  have H0 : Hid (DotH w W0.heap.size n (fun j => xs.getD j 0 * ys.getD j 0) (k + l) n (.int .i64 0) w1) := ⟨0, rfl, Nat.zero_le _, by omega, Fil.start hrow _ _, P4.out.step hb1, below_step G0.out hb1⟩
  have HGE : Hid (w.heap.size < W0.heap.size) := by unfold Hid; rw [SZ.out]; omega
  clear hrow hb1 hsz1 P4 G0 EW SZ
  generalize W0.heap.size = g at *
  go_wp2_with fail
  go_loopg [19] n (fun gk s19 wx => DotH w g n (fun j => xs.getD j 0 * ys.getD j 0) (k + l) gk s19 wx)
  case atStart => exact H0.out
  case round =>
    clear H0
    obtain ⟨i, rfl, hin, hg, hfil, hduo, hG⟩ := hrel
    have FI := hid hfil
    have P4 := hid hduo
    have G := hid hG
    have HG := hid hg
    clear hfil hduo hG hg
    by_cases hlt : i < n
    · have hlt' : (i : Int) < (n : Int) := by omega
      obtain ⟨b1, o1, rfl⟩ := F0.out (fun e => by have := HN.out; rw [e] at this; simp at this; omega)
      obtain ⟨b2, o2, rfl⟩ := F1.out (fun e => by have := HE.out; rw [e] at this; simp at this; omega)
      obtain ⟨nf, xf, adf, qf, k0, k1, zf⟩ := (A0.out.now G.out).at9 (i := i) (by rw [HN.out]; exact hlt)
      obtain ⟨ng, xg, adg, qg, k2, k3, zg⟩ := (B0.out.now G.out).at9 (i := i) (by rw [HE.out]; exact hlt)
      have ZF : Hid (∀ h : i < xs.length, ∀ h' : i < ys.length, xs[i] * ys[i] = xs.getD i 0 * ys.getD i 0) := fun h h' => by rw [getD_at h, getD_at h']
      have HS : Hid (∀ w', Below wr.heap.size wr w' → Calls Tryz.prog 53 #[.agg #[.bool nf, .slice adf xf.length qf], .agg #[.bool ng, .slice adg xg.length qg]] w' (GivesZ w' _ (k + l))) := fun w' h => mul_z (zf.now h) (zg.now h) (by omega)
      clear zf zg
      have hw := wrapI9 (i := i) (by omega)
      go_wp2_with fail
      have KB : Hid (∀ w', Below wr.heap.size wr w' → w'.cell? ⟨b1, o1 + i * 2, none⟩ = some (.bool nf) ∧ w'.cell? ⟨b1, o1 + i * 2 + 1, none⟩ = some (.slice adf xf.length qf) ∧ w'.cell? ⟨b2, o2 + i * 2, none⟩ = some (.bool ng) ∧ w'.cell? ⟨b2, o2 + i * 2 + 1, none⟩ = some (.slice adg xg.length qg)) := fun w' h => ⟨cnow h k0, cnow h k1, cnow h k2, cnow h k3⟩
      refine wp_region_tail (fun w' => w'.cell? ⟨b1, o1 + i * 2, none⟩ = some (.bool nf) ∧ w'.cell? ⟨b1, o1 + i * 2 + 1, none⟩ = some (.slice adf xf.length qf) ∧ w'.cell? ⟨b2, o2 + i * 2, none⟩ = some (.bool ng) ∧ w'.cell? ⟨b2, o2 + i * 2 + 1, none⟩ = some (.slice adg xg.length qg)) 12 (by kernel_rfl) ?_
      obtain ⟨D1, hD⟩ : ∃ D1, wr.drew = D1 := ⟨_, rfl⟩
      have GB : Hid (Below wr.heap.size wr D1) := by unfold Hid; rw [← hD]; exact (Below.refl _ _).drew
      rw [hD]
      clear hD
      have GBs := GB
      refine wpAnyT_take (i := 0) (oi := { dst := some 22, op := Op.move (Operand.tmp 6), type := 33, pos := "zint.go:129", after := #[], guard := none }) (v := (.slice (some ⟨g, 0, none⟩) n n)) rfl (by kernel_rfl) (fun _ _ _ h => h) (Or.inl ⟨by rfl, ?_⟩) (KB.out _ GB.out) ?_
      · intro w hSw
        (try dsimp only at hSw)
        go_simp
      simp only [Act.put, List.setIfInBounds_toArray, List.set_cons_zero, List.set_cons_succ]
      refine wpAnyT_take (i := 1) (oi := { dst := some 23, op := Op.move (Operand.tmp 7), type := 3, pos := "zint.go:129", after := #[], guard := none }) (v := (.int .i64 (i : Int))) rfl (by kernel_rfl) (fun _ _ _ h => h) (Or.inl ⟨by rfl, ?_⟩) (KB.out _ GB.out) ?_
      · intro w hSw
        (try dsimp only at hSw)
        go_simp
      simp only [Act.put, List.setIfInBounds_toArray, List.set_cons_zero, List.set_cons_succ]
      refine wpAnyT_take (i := 2) (oi := { dst := some 24, op := Op.move (Operand.tmp 0), type := 33, pos := "zint.go:129", after := #[], guard := none }) (v := (.slice (some ⟨b1, o1, none⟩) n c0)) rfl (by kernel_rfl) (fun _ _ _ h => h) (Or.inl ⟨by rfl, ?_⟩) (KB.out _ GB.out) ?_
      · intro w hSw
        (try dsimp only at hSw)
        go_simp
      simp only [Act.put, List.setIfInBounds_toArray, List.set_cons_zero, List.set_cons_succ]
      refine wpAnyT_take (i := 3) (oi := { dst := some 25, op := Op.move (Operand.tmp 7), type := 3, pos := "zint.go:129", after := #[], guard := none }) (v := (.int .i64 (i : Int))) rfl (by kernel_rfl) (fun _ _ _ h => h) (Or.inl ⟨by rfl, ?_⟩) (KB.out _ GB.out) ?_
      · intro w hSw
        (try dsimp only at hSw)
        go_simp
      simp only [Act.put, List.setIfInBounds_toArray, List.set_cons_zero, List.set_cons_succ]
      refine wpAnyT_take (i := 4) (oi := { dst := some 26, op := Op.indexAddr 33 (Operand.tmp 24) (Operand.tmp 25), type := 0, pos := "zint.go:129", after := #[{ on := 2, ground := Ground.data }, { on := 3, ground := Ground.data }], guard := none }) (v := (.pointer (some ⟨b1, o1 + i * 2, none⟩))) rfl (by kernel_rfl) (fun _ _ _ h => h) (Or.inl ⟨by rfl, ?_⟩) (KB.out _ GB.out) ?_
      · intro w hSw
        (try dsimp only at hSw)
        go_simp
      simp only [Act.put, List.setIfInBounds_toArray, List.set_cons_zero, List.set_cons_succ]
      refine wpAnyT_take (i := 5) (oi := { dst := some 27, op := Op.load 45 (Operand.tmp 26), type := 45, pos := "zint.go:129", after := #[{ on := 4, ground := Ground.data }], guard := none }) (v := (.agg #[.bool nf, .slice adf xf.length qf])) rfl (by kernel_rfl) (fun _ _ _ h => h) (Or.inl ⟨by rfl, ?_⟩) (KB.out _ GB.out) ?_
      · intro w hSw
        (try dsimp only at hSw)
        go_simp
      simp only [Act.put, List.setIfInBounds_toArray, List.set_cons_zero, List.set_cons_succ]
      refine wpAnyT_take (i := 6) (oi := { dst := some 28, op := Op.move (Operand.tmp 1), type := 33, pos := "zint.go:129", after := #[], guard := none }) (v := (.slice (some ⟨b2, o2, none⟩) n c1)) rfl (by kernel_rfl) (fun _ _ _ h => h) (Or.inl ⟨by rfl, ?_⟩) (KB.out _ GB.out) ?_
      · intro w hSw
        (try dsimp only at hSw)
        go_simp
      simp only [Act.put, List.setIfInBounds_toArray, List.set_cons_zero, List.set_cons_succ]
      refine wpAnyT_take (i := 7) (oi := { dst := some 29, op := Op.move (Operand.tmp 7), type := 3, pos := "zint.go:129", after := #[], guard := none }) (v := (.int .i64 (i : Int))) rfl (by kernel_rfl) (fun _ _ _ h => h) (Or.inl ⟨by rfl, ?_⟩) (KB.out _ GB.out) ?_
      · intro w hSw
        (try dsimp only at hSw)
        go_simp
      simp only [Act.put, List.setIfInBounds_toArray, List.set_cons_zero, List.set_cons_succ]
      refine wpAnyT_take (i := 8) (oi := { dst := some 30, op := Op.indexAddr 33 (Operand.tmp 28) (Operand.tmp 29), type := 0, pos := "zint.go:129", after := #[{ on := 6, ground := Ground.data }, { on := 7, ground := Ground.data }], guard := none }) (v := (.pointer (some ⟨b2, o2 + i * 2, none⟩))) rfl (by kernel_rfl) (fun _ _ _ h => h) (Or.inl ⟨by rfl, ?_⟩) (KB.out _ GB.out) ?_
      · intro w hSw
        (try dsimp only at hSw)
        go_simp
      simp only [Act.put, List.setIfInBounds_toArray, List.set_cons_zero, List.set_cons_succ]
      refine wpAnyT_take (i := 9) (oi := { dst := some 31, op := Op.load 45 (Operand.tmp 30), type := 45, pos := "zint.go:129", after := #[{ on := 8, ground := Ground.data }], guard := none }) (v := (.agg #[.bool ng, .slice adg xg.length qg])) rfl (by kernel_rfl) (fun _ _ _ h => h) (Or.inl ⟨by rfl, ?_⟩) (KB.out _ GB.out) ?_
      · intro w hSw
        (try dsimp only at hSw)
        go_simp
      simp only [Act.put, List.setIfInBounds_toArray, List.set_cons_zero, List.set_cons_succ]
      refine wpAnyT_one (i := 10) (o := { dst := some 32, op := Op.call { callee := Callee.value (Operand.func 53), args := #[Operand.tmp 27, Operand.tmp 31], argTypes := #[45, 45] }, type := 45, pos := "zint.go:129", after := #[{ on := 5, ground := Ground.data }, { on := 9, ground := Ground.data }], guard := none }) (by kernel_rfl) rfl (fun K hK => ?_)
      go_simp
      go_at_call 53
      refine (HS.out _ GB.out).mono ?_
      rintro e w2 ⟨r, rfl, m1, b⟩
      have lz2 := (show Below _ _ _ from b).size
      replace GB := hid (below_step GB.out b)
      have FI1 := hid (FI.out.step (below_step (w0 := wr) GBs.out b))
      have P41 := hid (P4.out.step (below_step (w0 := wr) GBs.out b))
      have G1 := hid (below_step G.out (below_step (w0 := wr) GBs.out b))
      have M1 := hid m1.zc
      obtain ⟨nr, xr, ar, cr, rfl⟩ := m1.parts
      rw [ZF.out (by rw [HN.out]; exact hlt) (by rw [HE.out]; exact hlt)] at M1
      clear m1
      clear b
      refine hK.out _ _ (fun _ => KB.out _ GB.out) ?_
      clear hK
      refine wpAnyT_take (i := 11) (oi := { dst := some 33, op := Op.indexAddr 33 (Operand.tmp 22) (Operand.tmp 23), type := 0, pos := "zint.go:129", after := #[{ on := 0, ground := Ground.data }, { on := 1, ground := Ground.data }, { on := 0, ground := Ground.phase }, { on := 1, ground := Ground.phase }, { on := 2, ground := Ground.phase }, { on := 3, ground := Ground.phase }, { on := 4, ground := Ground.phase }, { on := 5, ground := Ground.phase }, { on := 6, ground := Ground.phase }, { on := 7, ground := Ground.phase }, { on := 8, ground := Ground.phase }, { on := 9, ground := Ground.phase }, { on := 10, ground := Ground.phase }], guard := none }) (v := (.pointer (some ⟨g, i * 2, none⟩))) rfl (by kernel_rfl) (fun _ _ _ h => h) (Or.inl ⟨by rfl, ?_⟩) (KB.out _ GB.out) ?_
      · intro w hSw
        (try dsimp only at hSw)
        go_simp
      simp only [Act.put, List.setIfInBounds_toArray, List.set_cons_zero, List.set_cons_succ]
      refine wpAnyT_one (i := 12) (o := { dst := none, op := Op.store 45 (Operand.tmp 33) (Operand.tmp 32), type := 0, pos := "zint.go:129", after := #[{ on := 11, ground := Ground.data }, { on := 10, ground := Ground.data }, { on := 10, ground := Ground.chain }, { on := 0, ground := Ground.phase }, { on := 1, ground := Ground.phase }, { on := 2, ground := Ground.phase }, { on := 3, ground := Ground.phase }, { on := 4, ground := Ground.phase }, { on := 5, ground := Ground.phase }, { on := 6, ground := Ground.phase }, { on := 7, ground := Ground.phase }, { on := 8, ground := Ground.phase }, { on := 9, ground := Ground.phase }, { on := 10, ground := Ground.phase }], guard := none }) (by kernel_rfl) rfl (fun K hK => ?_)
      obtain ⟨m0, am, lm, cm, e0, e1, e2, e3⟩ := FI1.out.cells hlt
      go_simp
      clear e0 e1 e2 e3
      obtain ⟨V3, hW⟩ : ∃ V3, ((w2.setCell ⟨g, i * 2, none⟩ (.bool nr)).setCell ⟨g, i * 2 + 1, none⟩ (.slice ar xr.length cr)) = V3 := ⟨_, rfl⟩
      have HN1 : Hid (DotH w g n (fun j => xs.getD j 0 * ys.getD j 0) (k + l) (n - (i + 1)) (.int .i64 ((i + 1 : Nat) : Int)) V3) := by
        unfold Hid
        rw [← hW]
        exact ⟨i + 1, rfl, by omega, rfl, FI1.out.put hlt M1.out, P41.out.ne (by have := HGE.out; omega) |>.ne (by have := HGE.out; omega), bset (bset G1.out (by have := HGE.out; omega)) (by have := HGE.out; omega)⟩
      rw [hW]
      clear hW
      refine hK.out _ _ (fun h => absurd h (by decide)) ?_
      clear hK
      try simp only [Act.put]
      refine wpAnyT_done (by kernel_rfl) ?_ _
      have HMM : Hid (n - (i + 1) < gk) := by unfold Hid; rw [HG.out]; omega
      clear HS FI P4 G HG FI1 P41 G1 M1 ZF GBs GB KB HGE
      go_wp2_with fail
      go_roundg (n - (i + 1))
      case rel => exact HN1.out
      case measure => exact HMM.out
    · have hlt' : ¬ (i : Int) < (n : Int) := by omega
      obtain rfl : i = n := by omega
      obtain ⟨ps, p1, p2⟩ := FI.out.done (B := 0) (Nat.zero_le _) hn0
      have HS := hid (sum_z (zl_of p1 p2.zis) (by simp; omega))
      rw [← DV.out] at HS
      simp only [List.length_map, List.length_range] at HS
      clear p1 p2
      go_wp2_with fail
      refine HS.out.mono ?_
      rintro e w1 ⟨r, rfl, m1, b⟩
      have P41 := hid (P4.out.step b)
      have G1 := hid (below_step G.out b)
      have HM := hid (m1.mono G.out.size)
      obtain ⟨nr, xr, ar, cr, rfl⟩ := m1.parts
      have r0 := P41.out.c0
      have r1 := P41.out.c1
      have f0 := P41.out.fz 0
      have f1 := P41.out.fz 1
      clear HS FI P4 G HG m1 b
      go_wp2
      exact bodyPost_ret (zback1 Tryz.results51 (P41.out.set _ _) _ (by rfl) (by rfl)) rfl ⟨_, rfl, HM.out.box P41.out _ _, bset (bset G1.out (Nat.le_refl _)) (Nat.le_refl _)⟩
end Go.Proofs.YtcceoildbnoliaaGreat

/- Rows9 -/
namespace Go.Proofs.YtcceoildbnoliaaGreat
open Go.RowKit
set_option linter.unusedVariables false

/-- A list of lists of pairs; the inner ones lie from block B on. -/
def Prr (B : Nat) (w : World) (v : Value) (pss : List (List (Value × Value))) : Prop :=
  ∃ a c, v = .slice a pss.length c ∧ pss.length ≤ c ∧ pss.length ≤ 1048576 ∧ (pss = [] ∨ ∃ b off, a = some ⟨b, off, none⟩ ∧ b < w.heap.size ∧ ∀ (j : Nat) (ps : List (Value × Value)), pss[j]? = some ps → ∃ u, w.cell? ⟨b, off + j, none⟩ = some u ∧ Prs B w u ps)
theorem Prr.now {B : Nat} {w w' : World} {v : Value} {pss : List (List (Value × Value))} (h : Prr B w v pss) (hb : Below w.heap.size w w') : Prr B w' v pss := by
  obtain ⟨a, c, h1, h2, h3, h4⟩ := h
  refine ⟨a, c, h1, h2, h3, ?_⟩
  rcases h4 with h4 | ⟨b, off, h5, h6, h7⟩
  · exact .inl h4
  · refine .inr ⟨b, off, h5, Nat.lt_of_lt_of_le h6 hb.size, fun j ps hp => ?_⟩
    obtain ⟨u, q1, q2⟩ := h7 j ps hp
    exact ⟨u, (hb.cell (p := ⟨b, off + j, none⟩) h6).trans q1, q2.now hb⟩
theorem Prr.form {B : Nat} {w : World} {v : Value} {pss : List (List (Value × Value))} (h : Prr B w v pss) : ∃ a c, v = .slice a pss.length c ∧ pss.length ≤ c ∧ pss.length ≤ 1048576 ∧ (pss ≠ [] → ∃ b off, a = some ⟨b, off, none⟩) := by
  obtain ⟨a, c, h1, h2, h3, h4⟩ := h
  refine ⟨a, c, h1, h2, h3, fun hne => ?_⟩
  rcases h4 with h4 | ⟨b, off, h5, h6, h7⟩
  · exact absurd h4 hne
  · exact ⟨b, off, h5⟩
theorem Prr.at {B : Nat} {w : World} {b off l c : Nat} {pss : List (List (Value × Value))} (h : Prr B w (.slice (some ⟨b, off, none⟩) l c) pss) {i : Nat} {ps : List (Value × Value)} (hi : pss[i]? = some ps) : ∃ u, w.cell? ⟨b, off + i, none⟩ = some u ∧ Prs B w u ps := by
  obtain ⟨a', c', h1, h2, h3, h4⟩ := h
  rcases h4 with h4 | ⟨b', off', h5, h6, h7⟩
  · subst h4; simp at hi
  · simp only [Value.slice.injEq] at h1
    obtain ⟨rfl, -, -⟩ := h1
    simp only [Option.some.injEq, Addr.mk.injEq, and_true] at h5
    obtain ⟨rfl, rfl⟩ := h5
    exact h7 i ps hi
end Go.Proofs.YtcceoildbnoliaaGreat

/- RowsOf9 -/
namespace Go.Proofs.YtcceoildbnoliaaGreat
open Go.RowKit
set_option linter.unusedVariables false

theorem wrapM9 {i c : Nat} (hi : i ≤ 64) (hc : c ≤ 64) : IntKind.i64.wrap ((i : Int) * (c : Int)) = ((i * c : Nat) : Int) := by
  have h : i * c ≤ 64 * 64 := Nat.mul_le_mul hi hc
  rw [show (i : Int) * (c : Int) = ((i * c : Nat) : Int) by simp]
  rw [wrap_is] <;> omega
end Go.Proofs.YtcceoildbnoliaaGreat
