/-
  QSt11ToTy9: St11, Ty9, joined.
-/
import Derived.Test.YtlhbcdapinacgaaGreatQRound8ToPure9
import Derived.Test.YtlhbcdapinacgaaGreatQCat9

/- St11 -/
namespace Go.Proofs.YtlhbcdapinacgaaGreat
set_option linter.unusedVariables false

/-- A step that may be done. -/
inductive St where
  | swap (i j : Nat)
  | neg (i : Nat)
  | add (i j : Nat) (z : Int)
def St.fit (n : Nat) : St → Prop
  | .swap i j => i < n ∧ j < n
  | .neg i => i < n
  | .add i j _ => i < n ∧ j < n ∧ i ≠ j
def rowAt (zss : List (List Int)) (i : Nat) : List Int := zss.getD i []
def addRow (z : Int) (xs ys : List Int) : List Int := List.zipWith (fun x y => z * y + x) xs ys
def negRow (xs : List Int) : List Int := xs.map fun x => -x
def St.run : St → List (List Int) → List (List Int)
  | .swap i j, m => (m.set i (rowAt m j)).set j (rowAt m i)
  | .neg i, m => m.set i (negRow (rowAt m i))
  | .add i j z, m => m.set i (addRow z (rowAt m i) (rowAt m j))
def runs (ss : List St) (m : List (List Int)) : List (List Int) := ss.foldl (fun m s => s.run m) m
theorem runs_nil (m : List (List Int)) : runs [] m = m := rfl
theorem runs_snoc (ss : List St) (s : St) (m : List (List Int)) : runs (ss ++ [s]) m = s.run (runs ss m) := by simp [runs, List.foldl_append]
theorem St.run_length (s : St) (m : List (List Int)) : (s.run m).length = m.length := by cases s <;> simp [St.run]
theorem runs_length (ss : List St) : ∀ m, (runs ss m).length = m.length := by
  induction ss with
  | nil => intro m; rfl
  | cons s r ih => intro m; exact (ih (s.run m)).trans (s.run_length m)
/-- All rows are of one length. -/
def Wide (c : Nat) (m : List (List Int)) : Prop := ∀ r ∈ m, r.length = c
theorem Wide.at {c i : Nat} {m : List (List Int)} (h : Wide c m) (hi : i < m.length) : (rowAt m i).length = c := by
  have e : rowAt m i = m[i] := by simp [rowAt, hi]
  rw [e]
  exact h _ (List.getElem_mem hi)
theorem Wide.set {c i : Nat} {m : List (List Int)} {r : List Int} (h : Wide c m) (hr : r.length = c) : Wide c (m.set i r) := fun x hx => by
  rcases List.mem_or_eq_of_mem_set hx with q | rfl
  · exact h x q
  · exact hr
theorem addRow_length {c : Nat} {z : Int} {xs ys : List Int} (h1 : xs.length = c) (h2 : ys.length = c) : (addRow z xs ys).length = c := by simp [addRow, h1, h2]
theorem negRow_length {xs : List Int} : (negRow xs).length = xs.length := by simp [negRow]
theorem St.run_wide {c : Nat} {s : St} {m : List (List Int)} (h : Wide c m) (hf : s.fit m.length) : Wide c (s.run m) := by
  cases s with
  | swap i j => exact (h.set (h.at hf.2)).set (h.at hf.1)
  | neg i => exact h.set (by rw [negRow_length]; exact h.at hf)
  | add i j z => exact h.set (addRow_length (h.at hf.1) (h.at hf.2.1))
theorem runs_wide {c : Nat} {ss : List St} : ∀ {m : List (List Int)}, Wide c m → (∀ s ∈ ss, s.fit m.length) → Wide c (runs ss m) := by
  induction ss with
  | nil => intro m h _; exact h
  | cons s r ih => intro m h hf; exact ih (St.run_wide h (hf s (by simp))) (fun t ht => by rw [s.run_length]; exact hf t (by simp [ht]))

/-- What goes through steps: what is linear in rows. -/
structure Lin (c : Nat) (f : List Int → List Int) : Prop where
  neg : ∀ r, r.length = c → f (negRow r) = negRow (f r)
  add : ∀ z r q, r.length = c → q.length = c → f (addRow z r q) = addRow z (f r) (f q)
theorem rowAt_map {f : List Int → List Int} {m : List (List Int)} {i : Nat} (hi : i < m.length) : rowAt (m.map f) i = f (rowAt m i) := by simp [rowAt, hi]
theorem St.run_map {c : Nat} {f : List Int → List Int} (hl : Lin c f) {s : St} {m : List (List Int)} (h : Wide c m) (hf : s.fit m.length) : s.run (m.map f) = (s.run m).map f := by
  cases s with
  | swap i j =>
    simp only [St.run]
    rw [rowAt_map hf.1, rowAt_map hf.2, List.map_set, List.map_set]
  | neg i =>
    simp only [St.run]
    rw [rowAt_map (show i < m.length from hf), List.map_set, hl.neg _ (h.at hf)]
  | add i j z =>
    simp only [St.run]
    rw [rowAt_map hf.1, rowAt_map hf.2.1, List.map_set, hl.add z _ _ (h.at hf.1) (h.at hf.2.1)]
theorem runs_map {c : Nat} {f : List Int → List Int} (hl : Lin c f) {ss : List St} : ∀ {m : List (List Int)}, Wide c m → (∀ s ∈ ss, s.fit m.length) → runs ss (m.map f) = (runs ss m).map f := by
  induction ss with
  | nil => intro m _ _; rfl
  | cons s r ih =>
    intro m h hf
    show runs r (s.run (m.map f)) = (runs r (s.run m)).map f
    rw [St.run_map hl h (hf s (by simp))]
    exact ih (St.run_wide h (hf s (by simp))) (fun t ht => by rw [s.run_length]; exact hf t (by simp [ht]))

theorem dotv_neg {m : Nat} {r q : List Int} (h : r.length = m) : dotv (negRow r) q = -dotv r q := by
  rw [dotv_sum (m := m) (by rw [negRow_length]; exact h), dotv_sum (m := m) h, ← Int.neg_one_mul, ← sumN_mul_left]
  refine sumN_congr (fun t ht => ?_)
  have e : (negRow r).getD t 0 = -(r.getD t 0) := by simp [negRow, show t < r.length by omega]
  rw [e, Int.neg_one_mul, Int.neg_mul]
theorem dotv_add {m : Nat} {z : Int} {r s q : List Int} (h : r.length = m) (h2 : s.length = m) : dotv (addRow z r s) q = z * dotv s q + dotv r q := by
  rw [dotv_sum (m := m) (addRow_length h h2), dotv_sum (m := m) h, dotv_sum (m := m) h2, ← sumN_mul_left, ← sumN_add]
  refine sumN_congr (fun t ht => ?_)
  have e : (addRow z r s).getD t 0 = z * s.getD t 0 + r.getD t 0 := by
    have h3 : t < (addRow z r s).length := by rw [addRow_length h h2]; exact ht
    rw [List.getD_eq_getElem?_getD, List.getElem?_eq_getElem h3]
    simp [addRow, show t < r.length by omega, show t < s.length by omega]
  rw [e, Int.add_mul, Int.mul_assoc]
theorem lin_cols {m : Nat} (C : List (List Int)) : Lin m (fun r => C.map (dotv r)) := by
  refine ⟨fun r h => ?_, fun z r q h1 h2 => ?_⟩
  · simp only [negRow, List.map_map]
    refine List.map_congr_left fun c _ => ?_
    exact dotv_neg h
  · apply List.ext_getElem
    · simp [addRow]
    · intro i hi1 hi2
      have e : (addRow z (C.map (dotv r)) (C.map (dotv q)))[i] = z * dotv q (C[i]'(by simpa using hi1)) + dotv r (C[i]'(by simpa using hi1)) := by simp [addRow]
      rw [e, List.getElem_map]
      exact dotv_add h1 h2
theorem rowsL_flatten {c : Nat} : ∀ {L : List (List Int)}, Wide c L → rowsL L.length c L.flatten = L := by
  intro L h
  apply List.ext_getElem
  · simp [rowsL]
  · intro i h1 h2
    simp only [rowsL, List.getElem_map, List.getElem_range]
    induction L generalizing i with
    | nil => simp at h2
    | cons a L ih =>
      have ha : a.length = c := h a (by simp)
      cases i with
      | zero => simp [← ha]
      | succ i =>
        have h6 : (i + 1) * c = c + i * c := by rw [Nat.add_mul, Nat.one_mul, Nat.add_comm]
        simp only [List.flatten_cons, List.getElem_cons_succ]
        rw [h6, ← ha, List.drop_length_add_append, ha]
        exact ih (fun x hx => h x (by simp [hx])) i (by simpa [rowsL] using h1) (by simpa using h2)
theorem rows_wide {r c : Nat} {zs : List Int} (hl : zs.length = r * c) : Wide c (rowsL r c zs) := rows_len hl
theorem rowsL_length {r c : Nat} {zs : List Int} : (rowsL r c zs).length = r := by simp [rowsL]
theorem flatten_rowsL {r c : Nat} {zs : List Int} (hl : zs.length = r * c) : (rowsL r c zs).flatten = zs := by
  have hlen : (rowsL r c zs).flatten.length = r * c := by
    have := take_flat (m := c) (pss := rowsL r c zs) (rows_wide hl) r (by rw [rowsL_length]; exact Nat.le_refl _)
    rw [List.take_of_length_le (by rw [rowsL_length]; exact Nat.le_refl _)] at this
    exact this
  refine mat_ext (r := r) (c := c) hlen hl (fun i j hi hj => ?_)
  rw [flat_getD hj (rows_wide hl) (by rw [rowsL_length]; exact hi)]
  have e : (rowsL r c zs).getD i [] = (zs.drop (i * c)).take c := by simp [rowsL, hi]
  rw [e, List.getD_eq_getElem?_getD, List.getD_eq_getElem?_getD, List.getElem?_take, if_pos hj, List.getElem?_drop]
/-- What steps make of a matrix: of its rows, and as one list. -/
def rowsT (ss : List St) (r c : Nat) (zs : List Int) : List Int := (runs ss (rowsL r c zs)).flatten
theorem rowsT_length {ss : List St} {r c : Nat} {zs : List Int} (hl : zs.length = r * c) (hf : ∀ s ∈ ss, s.fit r) : (rowsT ss r c zs).length = r * c := by
  have h1 := runs_wide (ss := ss) (rows_wide hl) (by rw [rowsL_length]; exact hf)
  have h2 : (runs ss (rowsL r c zs)).length = r := by rw [runs_length, rowsL_length]
  have := take_flat (m := c) (pss := runs ss (rowsL r c zs)) h1 r (by omega)
  rw [List.take_of_length_le (by omega)] at this
  exact this
/-- P11.3: steps on rows are a product from the left. -/
theorem rowsT_prod {ss : List St} {r c : Nat} {zs : List Int} (hl : zs.length = r * c) (hf : ∀ s ∈ ss, s.fit r) : prodL r r c (rowsT ss r r (unitL r r)) zs = rowsT ss r c zs := by
  have hu : (unitL r r).length = r * r := unitL_length _ _
  have hw := runs_wide (ss := ss) (rows_wide hu) (by rw [rowsL_length]; exact hf)
  have h2 : (runs ss (rowsL r r (unitL r r))).length = r := by rw [runs_length, rowsL_length]
  have e1 : rowsL r r (rowsT ss r r (unitL r r)) = runs ss (rowsL r r (unitL r r)) := by
    have := rowsL_flatten hw
    rw [h2] at this
    exact this
  unfold prodL
  rw [e1, ← runs_map (lin_cols (colsL r c zs 0)) (rows_wide hu) (by rw [rowsL_length]; exact hf)]
  have e2 : ((rowsL r r (unitL r r)).map fun row => (colsL r c zs 0).map (dotv row)) = rowsL r c zs := by
    have hz := unit_prod hl
    unfold prodL at hz
    have hW : Wide c ((rowsL r r (unitL r r)).map fun row => (colsL r c zs 0).map (dotv row)) := by
      intro x hx
      simp only [List.mem_map] at hx
      obtain ⟨y, _, rfl⟩ := hx
      simp [colsL]
    have := rowsL_flatten hW
    rw [hz] at this
    simp only [List.length_map, rowsL_length] at this
    exact this.symm
  rw [e2]
  rfl
end Go.Proofs.YtlhbcdapinacgaaGreat

/- Ty9 -/
namespace Go.Proofs.YtlhbcdapinacgaaGreat
open Go.RowKit
set_option linter.unusedVariables false

/-- Blocks of other types than T are as they were. -/
def Ty (T : TypeId) (w w' : World) : Prop := w.heap.size ≤ w'.heap.size ∧ ∀ (b : Nat) (L : Array Value) (T' : TypeId) (fr : Nat × Nat), w.heap[b]? = some (.cells L T' fr) → T' ≠ T → w'.heap[b]? = some (.cells L T' fr)
theorem Ty.of {T : TypeId} {w w' : World} (h : Below w.heap.size w w') : Ty T w w' := ⟨h.size, fun b L T' fr e _ => (h.block b (Array.getElem?_eq_some_iff.1 e).1).trans e⟩
theorem Ty.trans {T : TypeId} {a b c : World} (h : Ty T a b) (h' : Ty T b c) : Ty T a c := ⟨Nat.le_trans h.1 h'.1, fun g L T' fr e hne => h'.2 g L T' fr (h.2 g L T' fr e hne) hne⟩
theorem Ty.set {T : TypeId} {w : World} {g i : Nat} {L : List Value} {u : Value} (d : Cel w g T L) : Ty T w (w.setCell ⟨g, i, none⟩ u) := by
  refine ⟨by simp, fun b L' T' fr e hne => ?_⟩
  have hb : b ≠ g := fun q => by
    subst q
    have := e.symm.trans (show w.heap[b]? = _ from d)
    simp at this
    exact hne this.2.1
  exact (Below.heap_setCell w _ u b (fun q => hb (by simpa using q))).trans e
theorem Ty.grown {T : TypeId} {w w' : World} {B size n : Nat} {v : Value} {xs : List Value} (h : w.ownsRow B T size v n xs) (hg : w.grownBy w' v.ownBlock) : Ty T w w' := by
  refine ⟨hg.size, fun b L' T' fr e hne => (hg.block b (Array.getElem?_eq_some_iff.1 e).1 (fun q => ?_)).trans e⟩
  obtain ⟨_, ⟨q1, _⟩ | ⟨g, cap, cur, q1, _, q3, _⟩⟩ := h
  · rw [q1] at q; cases q
  · rw [q1] at q
    simp only [Value.ownBlock, Option.some.injEq] at q
    subst q
    have := e.symm.trans q3
    simp at this
    exact hne this.2.1
theorem Zm.ty {T : TypeId} {B k : Nat} {w w' : World} {v : Value} {z : Int} (h : Zm B w v z k) (ht : Ty T w w') (hT : 64 ≠ T) : Zm B w' v z k := by
  obtain ⟨n1, zs, a, c, e, hm, rest⟩ := h
  refine ⟨n1, zs, a, c, e, ?_, rest⟩
  obtain ⟨hw, h | ⟨g, r, cap, h1, h2, h3, h4, h5, h6⟩⟩ := hm
  · exact ⟨hw, .inl h⟩
  · exact ⟨hw, .inr ⟨g, r, cap, h1, h2, h3, h4, h5, ht.2 g _ _ _ h6 hT⟩⟩
/-- A list of pairs in a block of integers. -/
def PrsT (w : World) (v : Value) (ps : List (Value × Value)) : Prop := Prs 0 w v ps ∧ ∀ (b off l c : Nat), v = .slice (some ⟨b, off, none⟩) l c → ∃ (L : Array Value) (fr : Nat × Nat), w.heap[b]? = some (.cells L 30 fr)
theorem PrsT.ty {T : TypeId} {w w' : World} {v : Value} {ps : List (Value × Value)} (h : PrsT w v ps) (ht : Ty T w w') (hT : 30 ≠ T) : PrsT w' v ps := by
  have key : ∀ (b off l c : Nat), v = .slice (some ⟨b, off, none⟩) l c → w'.heap[b]? = w.heap[b]? := fun b off l c e => by
    obtain ⟨L, fr, q⟩ := h.2 b off l c e
    rw [ht.2 b L _ fr q hT, q]
  refine ⟨?_, fun b off l c e => by
    obtain ⟨L, fr, q⟩ := h.2 b off l c e
    exact ⟨L, fr, ht.2 b L _ fr q hT⟩⟩
  obtain ⟨a, c, h1, h2, h3, hx, h4⟩ := h.1
  refine ⟨a, c, h1, h2, h3, hx, ?_⟩
  rcases h4 with h4 | ⟨b, off, h5, h5', h6, h7⟩
  · exact .inl h4
  · have e := key b off ps.length c (by rw [h1, h5])
    refine .inr ⟨b, off, h5, h5', Nat.lt_of_lt_of_le h6 ht.1, fun j p hp => ?_⟩
    have q := h7 j p hp
    exact ⟨(World.cell?_of_block (a := ⟨b, off + j * 2, none⟩) e).trans q.1, (World.cell?_of_block (a := ⟨b, off + j * 2 + 1, none⟩) e).trans q.2⟩
theorem PrsT.now {w w' : World} {v : Value} {ps : List (Value × Value)} (h : PrsT w v ps) (hb : Below w.heap.size w w') : PrsT w' v ps := h.ty (T := 64) (.of hb) (by decide)
theorem Arr.prsT {w : World} {g : Nat} {ps : List (Value × Value)} (h : Arr w g ps) (hl : ps.length ≤ 1048576) : PrsT w (.slice (some ⟨g, 0, none⟩) ps.length ps.length) ps := by
  refine ⟨h.prs (Nat.zero_le _) hl (Nat.le_refl _), fun b off l c e => ?_⟩
  simp only [Value.slice.injEq, Option.some.injEq, Addr.mk.injEq] at e
  obtain ⟨⟨rfl, -, -⟩, -, -⟩ := e
  exact ⟨_, _, h.1⟩
theorem OwnP.prsT {B : Nat} {w : World} {v : Value} {ps : List (Value × Value)} (h : OwnP B w v ps) (hl : ps.length ≤ 1048576) : PrsT w v ps := by
  refine ⟨(owns_prs h hl).mono (Nat.zero_le _), fun b off l c e => ?_⟩
  obtain ⟨_, ⟨q1, _⟩ | ⟨g, cap, cur, q1, _, q3, _⟩⟩ := h
  · rw [q1] at e; cases e
  · rw [q1] at e
    simp only [Value.slice.injEq, Option.some.injEq, Addr.mk.injEq] at e
    obtain ⟨⟨rfl, -, -⟩, -, -⟩ := e
    exact ⟨cur, _, q3⟩
/-- The pairs stand for these integers, each in least form with memory of its own. -/
def Zms (w : World) (ps : List (Value × Value)) (zs : List Int) (k : Nat) : Prop := ps.length = zs.length ∧ ∀ (j : Nat) (p : Value × Value) (z : Int), ps[j]? = some p → zs[j]? = some z → Zm 0 w (.agg #[p.1, p.2]) z k
theorem Zms.ty {T : TypeId} {w w' : World} {ps : List (Value × Value)} {zs : List Int} {k : Nat} (h : Zms w ps zs k) (ht : Ty T w w') (hT : 64 ≠ T) : Zms w' ps zs k := ⟨h.1, fun j p z hp hz => (h.2 j p z hp hz).ty ht hT⟩
theorem Zms.now {w w' : World} {ps : List (Value × Value)} {zs : List Int} {k : Nat} (h : Zms w ps zs k) (hb : Below w.heap.size w w') : Zms w' ps zs k := ⟨h.1, fun j p z hp hz => (h.2 j p z hp hz).now hb⟩
theorem Zms.zcs {w : World} {ps : List (Value × Value)} {zs : List Int} {k : Nat} (h : Zms w ps zs k) : Zcs w ps zs k := ⟨h.1, fun j p z hp hz => (h.2 j p z hp hz).zc⟩
theorem Zms.append {w : World} {ps qs : List (Value × Value)} {zs ys : List Int} {k : Nat} (h : Zms w ps zs k) (h' : Zms w qs ys k) : Zms w (ps ++ qs) (zs ++ ys) k := by
  refine ⟨by simp [h.1, h'.1], fun j p z hp hz => ?_⟩
  by_cases q : j < ps.length
  · rw [List.getElem?_append_left q] at hp
    rw [List.getElem?_append_left (by rw [← h.1]; exact q)] at hz
    exact h.2 j p z hp hz
  · rw [List.getElem?_append_right (by omega)] at hp
    rw [List.getElem?_append_right (by rw [← h.1]; omega), ← h.1] at hz
    exact h'.2 _ p z hp hz
def Zmss (w : World) (pss : List (List (Value × Value))) (zss : List (List Int)) (k : Nat) : Prop := pss.length = zss.length ∧ ∀ (j : Nat) (ps : List (Value × Value)), pss[j]? = some ps → Zms w ps (zss.getD j []) k
theorem Zmss.flat {w : World} {k : Nat} : ∀ {pss : List (List (Value × Value))} {zss : List (List Int)}, Zmss w pss zss k → Zms w pss.flatten zss.flatten k
  | [], [], _ => ⟨rfl, fun j p z hp => by simp at hp⟩
  | [], z :: zss, h => by have := h.1; simp at this
  | p :: pss, [], h => by have := h.1; simp at this
  | p :: pss, z :: zss, h => by
    have h1 := h.2 0 p rfl
    have h2 : Zmss w pss zss k := ⟨by have := h.1; simpa using this, fun j ps hp => by simpa using h.2 (j + 1) ps (by simpa using hp)⟩
    simpa using Zms.append h1 (Zmss.flat h2)
theorem Zmss.now {w w' : World} {pss : List (List (Value × Value))} {zss : List (List Int)} {k : Nat} (h : Zmss w pss zss k) (hb : Below w.heap.size w w') : Zmss w' pss zss k := ⟨h.1, fun j ps hp => (h.2 j ps hp).now hb⟩
/-- An array that a loop fills with integers of their own. -/
def FilM (wx : World) (g n i : Nat) (F : Nat → Int) (k : Nat) : Prop := ∃ ps, Arr wx g ps ∧ ps.length = n ∧ ∀ (j : Nat) (p : Value × Value), j < i → ps[j]? = some p → Zm 0 wx (.agg #[p.1, p.2]) (F j) k
theorem FilM.start {w : World} {g n : Nat} (h : Arr w g (List.replicate n zpair)) (F : Nat → Int) (k : Nat) : FilM w g n 0 F k := ⟨_, h, by simp, fun j p hj => by omega⟩
theorem FilM.step {w w' : World} {g n i : Nat} {F : Nat → Int} {k : Nat} (h : FilM w g n i F k) (hb : Below w.heap.size w w') : FilM w' g n i F k := by
  obtain ⟨ps, h1, h2, h3⟩ := h
  exact ⟨ps, h1.step hb, h2, fun j p hj hp => (h3 j p hj hp).now hb⟩
theorem FilM.put {w : World} {g n i : Nat} {F : Nat → Int} {k : Nat} {x y : Value} (h : FilM w g n i F k) (hi : i < n) (hz : Zm 0 w (.agg #[x, y]) (F i) k) : FilM ((w.setCell ⟨g, i * 2, none⟩ x).setCell ⟨g, i * 2 + 1, none⟩ y) g n (i + 1) F k := by
  obtain ⟨ps, h1, h2, h3⟩ := h
  have ht : Ty 30 w ((w.setCell ⟨g, i * 2, none⟩ x).setCell ⟨g, i * 2 + 1, none⟩ y) := (Ty.set h1.1).trans (Ty.set (h1.1.set _ _))
  refine ⟨ps.set i (x, y), h1.put (by omega) hz.zi.isI, by simpa using h2, fun j p hj hp => ?_⟩
  by_cases q : j = i
  · subst q
    rw [List.getElem?_set_self (by omega), Option.some.injEq] at hp
    subst hp
    exact hz.ty ht (by decide)
  · rw [List.getElem?_set_ne (by omega)] at hp
    exact (h3 j p (by omega) hp).ty ht (by decide)
theorem FilM.cells {w : World} {g n i j : Nat} {F : Nat → Int} {k : Nat} (h : FilM w g n i F k) (hj : j < n) : ∃ m a l c, w.cell? ⟨g, j * 2, none⟩ = some (.bool m) ∧ w.cell? ⟨g, j * 2 + 1, none⟩ = some (.slice a l c) ∧ w.frozen? ⟨g, j * 2, none⟩ = false ∧ w.frozen? ⟨g, j * 2 + 1, none⟩ = false := by
  obtain ⟨ps, h1, h2, h3⟩ := h
  have hp : ps[j]? = some (ps[j]'(by omega)) := List.getElem?_eq_getElem (by omega)
  obtain ⟨m, a, l, c, e⟩ := h1.2 _ (List.getElem_mem (l := ps) (n := j) (by omega))
  have q := h1.at hp
  rw [e] at q
  exact ⟨m, a, l, c, q.1, q.2, h1.1.fz _, h1.1.fz _⟩
theorem FilM.done {w : World} {g n : Nat} {F : Nat → Int} {k : Nat} (h : FilM w g n n F k) (hn : n ≤ 1048576) : ∃ ps, PrsT w (.slice (some ⟨g, 0, none⟩) n n) ps ∧ Zms w ps ((List.range n).map F) k := by
  obtain ⟨ps, h1, rfl, h3⟩ := h
  refine ⟨ps, h1.prsT hn, by simp, fun j p z hp hz => ?_⟩
  have hj : j < ps.length := (List.getElem?_eq_some_iff.1 hp).1
  rw [List.getElem?_map, List.getElem?_range hj, Option.map_some, Option.some.injEq] at hz
  subst hz
  exact h3 j p hj hp
def ListedM (w : World) (zs : List Int) (k : Nat) (e : Ending) (w' : World) : Prop := ∃ u ps, e = .returned u ∧ PrsT w' u ps ∧ Zms w' ps zs k ∧ Below w.heap.size w w'
end Go.Proofs.YtlhbcdapinacgaaGreat
