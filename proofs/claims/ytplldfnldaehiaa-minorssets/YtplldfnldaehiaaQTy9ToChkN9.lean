/-
  QTy9ToChkN9: Ty9, Sh11, UnitA9, Wk9, Turn9, OpenM9, ChkN9, joined.
-/
import Derived.Test.YtplldfnldaehiaaQCat9ToColsP9
import Derived.Test.YtplldfnldaehiaaQCols9ToSt11
import Derived.Laws.OwnMore
import Derived.Test.YtplldfnldaehiaaQBulkToRf11

/- Ty9 -/
namespace Go.Proofs.Ytplldfnldaehiaa
open Go.RowKit
set_option linter.unusedVariables false

/-- Blocks of other types than T are as they were. -/
def Ty (T : TypeId) (w w' : World) : Prop := w.heap.size ≤ w'.heap.size ∧ ∀ (b : Nat) (L : Array Value) (T' : TypeId) (fr : Nat × Nat), w.heap[b]? = some (.cells L T' fr) → T' ≠ T → w'.heap[b]? = some (.cells L T' fr)
theorem Ty.of {T : TypeId} {w w' : World} (h : Below w.heap.size w w') : Ty T w w' := ⟨h.size, fun b L T' fr e _ => (h.block b (Array.getElem?_eq_some_iff.1 e).1).trans e⟩
theorem Ty.trans {T : TypeId} {a b c : World} (h : Ty T a b) (h' : Ty T b c) : Ty T a c := ⟨Nat.le_trans h.1 h'.1, fun g L T' fr e hne => h'.2 g L T' fr (h.2 g L T' fr e hne) hne⟩
theorem Ty.set {T : TypeId} {w : World} {g i : Nat} {L : List Value} {u : Value} (d : Cel w g T L) : Ty T w (w.setCell ⟨g, i, none⟩ u) := by
  refine ⟨by simp, fun b L' T' fr e hne => ?_⟩
  have hb : b ≠ g := fun q => by
    subst q
    have := e.symm.trans (show w.heap[b]? = _ from d)
    simp at this
    exact hne this.2.1
  exact (Below.heap_setCell w _ u b (fun q => hb (by simpa using q))).trans e
theorem Ty.grown {T : TypeId} {w w' : World} {B size n : Nat} {v : Value} {xs : List Value} (h : w.ownsRow B T size v n xs) (hg : w.grownBy w' v.ownBlock) : Ty T w w' := by
  refine ⟨hg.size, fun b L' T' fr e hne => (hg.block b (Array.getElem?_eq_some_iff.1 e).1 (fun q => ?_)).trans e⟩
  obtain ⟨_, ⟨q1, _⟩ | ⟨g, cap, cur, q1, _, q3, _⟩⟩ := h
  · rw [q1] at q; cases q
  · rw [q1] at q
    simp only [Value.ownBlock, Option.some.injEq] at q
    subst q
    have := e.symm.trans q3
    simp at this
    exact hne this.2.1
theorem Zm.ty {T : TypeId} {B k : Nat} {w w' : World} {v : Value} {z : Int} (h : Zm B w v z k) (ht : Ty T w w') (hT : 54 ≠ T) : Zm B w' v z k := by
  obtain ⟨n1, zs, a, c, e, hm, rest⟩ := h
  refine ⟨n1, zs, a, c, e, ?_, rest⟩
  obtain ⟨hw, h | ⟨g, r, cap, h1, h2, h3, h4, h5, h6⟩⟩ := hm
  · exact ⟨hw, .inl h⟩
  · exact ⟨hw, .inr ⟨g, r, cap, h1, h2, h3, h4, h5, ht.2 g _ _ _ h6 hT⟩⟩
/-- A list of pairs in a block of integers. -/
def PrsT (w : World) (v : Value) (ps : List (Value × Value)) : Prop := Prs 0 w v ps ∧ ∀ (b off l c : Nat), v = .slice (some ⟨b, off, none⟩) l c → ∃ (L : Array Value) (fr : Nat × Nat), w.heap[b]? = some (.cells L 41 fr)
theorem PrsT.ty {T : TypeId} {w w' : World} {v : Value} {ps : List (Value × Value)} (h : PrsT w v ps) (ht : Ty T w w') (hT : 41 ≠ T) : PrsT w' v ps := by
  have key : ∀ (b off l c : Nat), v = .slice (some ⟨b, off, none⟩) l c → w'.heap[b]? = w.heap[b]? := fun b off l c e => by
    obtain ⟨L, fr, q⟩ := h.2 b off l c e
    rw [ht.2 b L _ fr q hT, q]
  refine ⟨?_, fun b off l c e => by
    obtain ⟨L, fr, q⟩ := h.2 b off l c e
    exact ⟨L, fr, ht.2 b L _ fr q hT⟩⟩
  obtain ⟨a, c, h1, h2, h3, hx, h4⟩ := h.1
  refine ⟨a, c, h1, h2, h3, hx, ?_⟩
  rcases h4 with h4 | ⟨b, off, h5, h5', h6, h7⟩
  · exact .inl h4
  · have e := key b off ps.length c (by rw [h1, h5])
    refine .inr ⟨b, off, h5, h5', Nat.lt_of_lt_of_le h6 ht.1, fun j p hp => ?_⟩
    have q := h7 j p hp
    exact ⟨(World.cell?_of_block (a := ⟨b, off + j * 2, none⟩) e).trans q.1, (World.cell?_of_block (a := ⟨b, off + j * 2 + 1, none⟩) e).trans q.2⟩
theorem PrsT.now {w w' : World} {v : Value} {ps : List (Value × Value)} (h : PrsT w v ps) (hb : Below w.heap.size w w') : PrsT w' v ps := h.ty (T := 54) (.of hb) (by decide)
theorem Arr.prsT {w : World} {g : Nat} {ps : List (Value × Value)} (h : Arr w g ps) (hl : ps.length ≤ 1048576) : PrsT w (.slice (some ⟨g, 0, none⟩) ps.length ps.length) ps := by
  refine ⟨h.prs (Nat.zero_le _) hl (Nat.le_refl _), fun b off l c e => ?_⟩
  simp only [Value.slice.injEq, Option.some.injEq, Addr.mk.injEq] at e
  obtain ⟨⟨rfl, -, -⟩, -, -⟩ := e
  exact ⟨_, _, h.1⟩
theorem OwnP.prsT {B : Nat} {w : World} {v : Value} {ps : List (Value × Value)} (h : OwnP B w v ps) (hl : ps.length ≤ 1048576) : PrsT w v ps := by
  refine ⟨(owns_prs h hl).mono (Nat.zero_le _), fun b off l c e => ?_⟩
  obtain ⟨_, ⟨q1, _⟩ | ⟨g, cap, cur, q1, _, q3, _⟩⟩ := h
  · rw [q1] at e; cases e
  · rw [q1] at e
    simp only [Value.slice.injEq, Option.some.injEq, Addr.mk.injEq] at e
    obtain ⟨⟨rfl, -, -⟩, -, -⟩ := e
    exact ⟨cur, _, q3⟩
/-- The pairs stand for these integers, each in least form with memory of its own. -/
def Zms (w : World) (ps : List (Value × Value)) (zs : List Int) (k : Nat) : Prop := ps.length = zs.length ∧ ∀ (j : Nat) (p : Value × Value) (z : Int), ps[j]? = some p → zs[j]? = some z → Zm 0 w (.agg #[p.1, p.2]) z k
theorem Zms.ty {T : TypeId} {w w' : World} {ps : List (Value × Value)} {zs : List Int} {k : Nat} (h : Zms w ps zs k) (ht : Ty T w w') (hT : 54 ≠ T) : Zms w' ps zs k := ⟨h.1, fun j p z hp hz => (h.2 j p z hp hz).ty ht hT⟩
theorem Zms.now {w w' : World} {ps : List (Value × Value)} {zs : List Int} {k : Nat} (h : Zms w ps zs k) (hb : Below w.heap.size w w') : Zms w' ps zs k := ⟨h.1, fun j p z hp hz => (h.2 j p z hp hz).now hb⟩
theorem Zms.zcs {w : World} {ps : List (Value × Value)} {zs : List Int} {k : Nat} (h : Zms w ps zs k) : Zcs w ps zs k := ⟨h.1, fun j p z hp hz => (h.2 j p z hp hz).zc⟩
theorem Zms.append {w : World} {ps qs : List (Value × Value)} {zs ys : List Int} {k : Nat} (h : Zms w ps zs k) (h' : Zms w qs ys k) : Zms w (ps ++ qs) (zs ++ ys) k := by
  refine ⟨by simp [h.1, h'.1], fun j p z hp hz => ?_⟩
  by_cases q : j < ps.length
  · rw [List.getElem?_append_left q] at hp
    rw [List.getElem?_append_left (by rw [← h.1]; exact q)] at hz
    exact h.2 j p z hp hz
  · rw [List.getElem?_append_right (by omega)] at hp
    rw [List.getElem?_append_right (by rw [← h.1]; omega), ← h.1] at hz
    exact h'.2 _ p z hp hz
def Zmss (w : World) (pss : List (List (Value × Value))) (zss : List (List Int)) (k : Nat) : Prop := pss.length = zss.length ∧ ∀ (j : Nat) (ps : List (Value × Value)), pss[j]? = some ps → Zms w ps (zss.getD j []) k
theorem Zmss.flat {w : World} {k : Nat} : ∀ {pss : List (List (Value × Value))} {zss : List (List Int)}, Zmss w pss zss k → Zms w pss.flatten zss.flatten k
  | [], [], _ => ⟨rfl, fun j p z hp => by simp at hp⟩
  | [], z :: zss, h => by have := h.1; simp at this
  | p :: pss, [], h => by have := h.1; simp at this
  | p :: pss, z :: zss, h => by
    have h1 := h.2 0 p rfl
    have h2 : Zmss w pss zss k := ⟨by have := h.1; simpa using this, fun j ps hp => by simpa using h.2 (j + 1) ps (by simpa using hp)⟩
    simpa using Zms.append h1 (Zmss.flat h2)
theorem Zmss.now {w w' : World} {pss : List (List (Value × Value))} {zss : List (List Int)} {k : Nat} (h : Zmss w pss zss k) (hb : Below w.heap.size w w') : Zmss w' pss zss k := ⟨h.1, fun j ps hp => (h.2 j ps hp).now hb⟩
/-- An array that a loop fills with integers of their own. -/
def FilM (wx : World) (g n i : Nat) (F : Nat → Int) (k : Nat) : Prop := ∃ ps, Arr wx g ps ∧ ps.length = n ∧ ∀ (j : Nat) (p : Value × Value), j < i → ps[j]? = some p → Zm 0 wx (.agg #[p.1, p.2]) (F j) k
theorem FilM.start {w : World} {g n : Nat} (h : Arr w g (List.replicate n zpair)) (F : Nat → Int) (k : Nat) : FilM w g n 0 F k := ⟨_, h, by simp, fun j p hj => by omega⟩
theorem FilM.step {w w' : World} {g n i : Nat} {F : Nat → Int} {k : Nat} (h : FilM w g n i F k) (hb : Below w.heap.size w w') : FilM w' g n i F k := by
  obtain ⟨ps, h1, h2, h3⟩ := h
  exact ⟨ps, h1.step hb, h2, fun j p hj hp => (h3 j p hj hp).now hb⟩
theorem FilM.put {w : World} {g n i : Nat} {F : Nat → Int} {k : Nat} {x y : Value} (h : FilM w g n i F k) (hi : i < n) (hz : Zm 0 w (.agg #[x, y]) (F i) k) : FilM ((w.setCell ⟨g, i * 2, none⟩ x).setCell ⟨g, i * 2 + 1, none⟩ y) g n (i + 1) F k := by
  obtain ⟨ps, h1, h2, h3⟩ := h
  have ht : Ty 41 w ((w.setCell ⟨g, i * 2, none⟩ x).setCell ⟨g, i * 2 + 1, none⟩ y) := (Ty.set h1.1).trans (Ty.set (h1.1.set _ _))
  refine ⟨ps.set i (x, y), h1.put (by omega) hz.zi.isI, by simpa using h2, fun j p hj hp => ?_⟩
  by_cases q : j = i
  · subst q
    rw [List.getElem?_set_self (by omega), Option.some.injEq] at hp
    subst hp
    exact hz.ty ht (by decide)
  · rw [List.getElem?_set_ne (by omega)] at hp
    exact (h3 j p (by omega) hp).ty ht (by decide)
theorem FilM.cells {w : World} {g n i j : Nat} {F : Nat → Int} {k : Nat} (h : FilM w g n i F k) (hj : j < n) : ∃ m a l c, w.cell? ⟨g, j * 2, none⟩ = some (.bool m) ∧ w.cell? ⟨g, j * 2 + 1, none⟩ = some (.slice a l c) ∧ w.frozen? ⟨g, j * 2, none⟩ = false ∧ w.frozen? ⟨g, j * 2 + 1, none⟩ = false := by
  obtain ⟨ps, h1, h2, h3⟩ := h
  have hp : ps[j]? = some (ps[j]'(by omega)) := List.getElem?_eq_getElem (by omega)
  obtain ⟨m, a, l, c, e⟩ := h1.2 _ (List.getElem_mem (l := ps) (n := j) (by omega))
  have q := h1.at hp
  rw [e] at q
  exact ⟨m, a, l, c, q.1, q.2, h1.1.fz _, h1.1.fz _⟩
theorem FilM.done {w : World} {g n : Nat} {F : Nat → Int} {k : Nat} (h : FilM w g n n F k) (hn : n ≤ 1048576) : ∃ ps, PrsT w (.slice (some ⟨g, 0, none⟩) n n) ps ∧ Zms w ps ((List.range n).map F) k := by
  obtain ⟨ps, h1, rfl, h3⟩ := h
  refine ⟨ps, h1.prsT hn, by simp, fun j p z hp hz => ?_⟩
  have hj : j < ps.length := (List.getElem?_eq_some_iff.1 hp).1
  rw [List.getElem?_map, List.getElem?_range hj, Option.map_some, Option.some.injEq] at hz
  subst hz
  exact h3 j p hj hp
end Go.Proofs.Ytplldfnldaehiaa

/- Sh11 -/
namespace Go.Proofs.Ytplldfnldaehiaa
open Go.RowKit
set_option linter.unusedVariables false

/-- Blocks of other types than integers and lists of them are as they were, and so are all words. -/
def Kw (w w' : World) : Prop := w.heap.size ≤ w'.heap.size ∧ (∀ (b : Nat) (L : Array Value) (T : TypeId) (fr : Nat × Nat), w.heap[b]? = some (.cells L T fr) → T ≠ 41 → T ≠ 43 → w'.heap[b]? = some (.cells L T fr)) ∧ Wk w w'
theorem Kw.refl (w : World) : Kw w w := ⟨Nat.le_refl _, fun _ _ _ _ h _ _ => h, Wk.refl _⟩
theorem Kw.of {w w' : World} (h : Below w.heap.size w w') : Kw w w' := ⟨h.size, fun b L T fr e _ _ => (h.block b (Array.getElem?_eq_some_iff.1 e).1).trans e, Wk.of h⟩
theorem Kw.trans {a b c : World} (h : Kw a b) (h' : Kw b c) : Kw a c := ⟨Nat.le_trans h.1 h'.1, fun g L T fr e n1 n2 => h'.2.1 g L T fr (h.2.1 g L T fr e n1 n2) n1 n2, h.2.2.trans h'.2.2⟩
theorem Kw.cel {w w' : World} {b : Nat} {T : TypeId} {L : List Value} (h : Kw w w') (d : Cel w b T L) (h1 : T ≠ 41) (h2 : T ≠ 43) : Cel w' b T L := h.2.1 b _ T _ d h1 h2
theorem Kw.set {w : World} {g i : Nat} {L : Array Value} {T : TypeId} {fr : Nat × Nat} {u v : Value} (d : w.heap[g]? = some (.cells L T fr)) (hT : T = 41 ∨ T = 43) (hc : w.cell? ⟨g, i, none⟩ = some u) (hu : NoW u) : Kw w (w.setCell ⟨g, i, none⟩ v) := by
  refine ⟨by simp, fun b L' T' fr' e n1 n2 => ?_, Wk.set hc hu⟩
  have hb : b ≠ g := fun q => by
    subst q
    have := e.symm.trans d
    simp at this
    rcases hT with q | q
    · exact n1 (this.2.1.trans q)
    · exact n2 (this.2.1.trans q)
  exact (Below.heap_setCell w _ v b (fun q => hb (by simpa using q))).trans e

def rowv (c g : Nat) : Value := .slice (some ⟨g, 0, none⟩) c c
/-- Each once. -/
def Ones (gs : List Nat) : Prop := ∀ (i j g : Nat), gs[i]? = some g → gs[j]? = some g → i = j
/-- The list lv of rows, arrays gs of c integers each, in memory from block B on. -/
def Sht (B : Nat) (w : World) (lv : Value) (c : Nat) (gs : List Nat) (m : List (List Int)) (k : Nat) : Prop :=
  w.ownsRow B 43 1 lv gs.length (gs.map (rowv c)) ∧ Ones gs ∧ gs.length = m.length ∧ (∀ g ∈ gs, B ≤ g) ∧ Wide c m ∧
    ∀ (j g : Nat), gs[j]? = some g → ∃ ps, Arr w g ps ∧ Zcs w ps (rowAt m j) k
theorem Sht.now {B c k : Nat} {w w' : World} {lv : Value} {gs : List Nat} {m : List (List Int)} (h : Sht B w lv c gs m k) (hb : Below w.heap.size w w') : Sht B w' lv c gs m k := by
  obtain ⟨h1, h2, h3, h4, h5, h6⟩ := h
  refine ⟨owns_keep h1 (fun b _ hlt => hb.block b hlt), h2, h3, h4, h5, fun j g hg => ?_⟩
  obtain ⟨ps, q1, q2⟩ := h6 j g hg
  exact ⟨ps, q1.step hb, q2.now hb⟩
theorem Sht.more {B c k l : Nat} {w : World} {lv : Value} {gs : List Nat} {m : List (List Int)} (h : Sht B w lv c gs m k) (hl : k ≤ l) : Sht B w lv c gs m l := by
  obtain ⟨h1, h2, h3, h4, h5, h6⟩ := h
  refine ⟨h1, h2, h3, h4, h5, fun j g hg => ?_⟩
  obtain ⟨ps, q1, q2⟩ := h6 j g hg
  exact ⟨ps, q1, q2.more hl⟩
theorem Sht.form {B c k : Nat} {w : World} {lv : Value} {gs : List Nat} {m : List (List Int)} (h : Sht B w lv c gs m k) : ∃ a cap, lv = .slice a m.length cap ∧ m.length ≤ cap ∧ (0 < m.length → ∃ L, a = some ⟨L, 0, none⟩ ∧ B ≤ L ∧ L < w.heap.size) := by
  obtain ⟨⟨q1, ⟨q2, q3⟩ | ⟨g, cap, cur, q2, q3, q4, q5, q6⟩⟩, h2, h3, h4, h5, h6⟩ := h
  · exact ⟨none, 0, by rw [q2, ← h3, q3], by omega, fun q => by omega⟩
  · exact ⟨_, cap, by rw [q2, ← h3], by omega, fun _ => ⟨g, rfl, q3, (Array.getElem?_eq_some_iff.1 q4).1⟩⟩
/-- The row's array. -/
theorem Sht.blk {B c k : Nat} {w : World} {lv : Value} {gs : List Nat} {m : List (List Int)} (h : Sht B w lv c gs m k) {i : Nat} (hi : i < m.length) : ∃ g, gs[i]? = some g ∧ B ≤ g ∧ g < w.heap.size ∧ ∃ ps, Arr w g ps ∧ ps.length = c ∧ Zcs w ps (rowAt m i) k := by
  obtain ⟨h1, h2, h3, h4, h5, h6⟩ := h
  have hg : gs[i]? = some (gs[i]'(by omega)) := List.getElem?_eq_getElem (by omega)
  obtain ⟨ps, q1, q2⟩ := h6 i _ hg
  exact ⟨_, hg, h4 _ (List.getElem_mem _), q1.1.blk, ps, q1, by rw [q2.1]; exact h5.at hi, q2⟩
/-- Where the row's value lies. -/
theorem Sht.line {B c k L cap : Nat} {w : World} {gs : List Nat} {m : List (List Int)} (h : Sht B w (.slice (some ⟨L, 0, none⟩) m.length cap) c gs m k) {i g : Nat} (hg : gs[i]? = some g) : w.cell? ⟨L, i, none⟩ = some (rowv c g) ∧ w.frozen? ⟨L, i, none⟩ = false := by
  obtain ⟨h1, h2, h3, h4, h5, h6⟩ := h
  rw [← h3] at h1
  have hi : i < gs.length := (List.getElem?_eq_some_iff.1 hg).1
  refine ⟨?_, h1.frozenAt i⟩
  rw [h1.cellAt i (by omega)]
  simp [hg]
/-- Two rows change places. -/
theorem Sht.swap {B c k L cap : Nat} {w : World} {gs : List Nat} {m : List (List Int)} (h : Sht B w (.slice (some ⟨L, 0, none⟩) m.length cap) c gs m k) {i j a b : Nat} (ha : gs[i]? = some a) (hb : gs[j]? = some b) :
    Sht B ((w.setCell ⟨L, i, none⟩ (rowv c b)).setCell ⟨L, j, none⟩ (rowv c a)) (.slice (some ⟨L, 0, none⟩) m.length cap) c ((gs.set i b).set j a) ((m.set i (rowAt m j)).set j (rowAt m i)) k
      ∧ Below B w ((w.setCell ⟨L, i, none⟩ (rowv c b)).setCell ⟨L, j, none⟩ (rowv c a)) ∧ Kw w ((w.setCell ⟨L, i, none⟩ (rowv c b)).setCell ⟨L, j, none⟩ (rowv c a)) := by
  have l1 := h.line ha
  have l2 := h.line hb
  obtain ⟨h1, h2, h3, h4, h5, h6⟩ := h
  have hi : i < gs.length := (List.getElem?_eq_some_iff.1 ha).1
  have hj : j < gs.length := (List.getElem?_eq_some_iff.1 hb).1
  rw [← h3] at h1 ⊢
  obtain ⟨o1, g1⟩ := h1.stored i (rowv c b)
  obtain ⟨o2, g2⟩ := o1.stored j (rowv c a)
  obtain ⟨_, ⟨q2, _⟩ | ⟨g, cap', cur, q2, q3, q4, q5, q6⟩⟩ := h1
  · cases q2
  simp only [Value.slice.injEq, Option.some.injEq, Addr.mk.injEq, and_true, true_and] at q2
  obtain ⟨rfl, rfl⟩ := q2
  have k1 : Kw w (w.setCell ⟨L, i, none⟩ (rowv c b)) := Kw.set q4 (.inr rfl) l1.1 (noS _ _ _)
  have c2 : ∃ u, (w.setCell ⟨L, i, none⟩ (rowv c b)).cell? ⟨L, j, none⟩ = some u ∧ NoW u := by
    have e := o1.cellAt j (by omega)
    by_cases q : j = i
    · subst q
      exact ⟨rowv c b, by rw [e]; simp [hi], noS _ _ _⟩
    · exact ⟨rowv c b, by rw [e, List.getElem?_set_ne (by omega)]; simp [hb], noS _ _ _⟩
  obtain ⟨u, hu, hn⟩ := c2
  have k2 : Kw (w.setCell ⟨L, i, none⟩ (rowv c b)) ((w.setCell ⟨L, i, none⟩ (rowv c b)).setCell ⟨L, j, none⟩ (rowv c a)) := by
    obtain ⟨_, ⟨p2, _⟩ | ⟨g', cap2, cur2, p2, p3, p4, p5, p6⟩⟩ := o1
    · cases p2
    simp only [Value.slice.injEq, Option.some.injEq, Addr.mk.injEq, and_true, true_and] at p2
    obtain ⟨rfl, rfl⟩ := p2
    exact Kw.set p4 (.inr rfl) hu hn
  have kk := k1.trans k2
  refine ⟨⟨?_, ?_, by simpa using h3, ?_, ?_, ?_⟩, bset (bset (Below.refl _ _) q3) q3, kk⟩
  · rw [List.length_set, List.length_set, List.map_set, List.map_set]
    exact o2
  · have ea : gs[i] = a := (List.getElem?_eq_some_iff.1 ha).2
    have eb : gs[j] = b := (List.getElem?_eq_some_iff.1 hb).2
    have key : ∀ s, s < gs.length → ((gs.set i b).set j a)[s]? = gs[if s = j then i else if s = i then j else s]? := fun s hs => by
      by_cases p : s = j
      · subst p; rw [if_pos rfl, List.getElem?_set_self (by simpa using hj), ha]
      · rw [if_neg p, List.getElem?_set_ne (by omega)]
        by_cases p2 : s = i
        · subst p2; rw [if_pos rfl, List.getElem?_set_self hi, hb]
        · rw [if_neg p2, List.getElem?_set_ne (by omega)]
    intro s t g hs ht
    have s1 : s < gs.length := by simpa using (List.getElem?_eq_some_iff.1 hs).1
    have t1 : t < gs.length := by simpa using (List.getElem?_eq_some_iff.1 ht).1
    rw [key s s1] at hs
    rw [key t t1] at ht
    have := h2 _ _ _ hs ht
    split at this <;> split at this <;> (try split at this) <;> (try split at this) <;> omega
  · intro g hg
    rcases List.mem_or_eq_of_mem_set hg with q | rfl
    · rcases List.mem_or_eq_of_mem_set q with q | rfl
      · exact h4 g q
      · exact h4 _ (List.mem_of_getElem? hb)
    · exact h4 _ (List.mem_of_getElem? ha)
  · exact (h5.set (h5.at (by omega))).set (h5.at (by omega))
  · have keep : ∀ (t g : Nat), gs[t]? = some g → ∃ ps, Arr ((w.setCell ⟨L, i, none⟩ (rowv c b)).setCell ⟨L, j, none⟩ (rowv c a)) g ps ∧ Zcs ((w.setCell ⟨L, i, none⟩ (rowv c b)).setCell ⟨L, j, none⟩ (rowv c a)) ps (rowAt m t) k := fun t g hg => by
      obtain ⟨ps, p1, p2⟩ := h6 t g hg
      have hne : L ≠ g := fun e => by
        subst e
        have := q4.symm.trans (show w.heap[L]? = _ from p1.1)
        simp at this
      exact ⟨ps, ⟨(p1.1.ne hne).ne hne, p1.2⟩, p2.wk kk.2.2⟩
    intro t g hg
    by_cases p : t = j
    · subst p
      rw [List.getElem?_set_self (by simpa using hj), Option.some.injEq] at hg
      subst hg
      have e : rowAt ((m.set i (rowAt m t)).set t (rowAt m i)) t = rowAt m i := by simp [rowAt, show t < m.length by omega]
      rw [e]
      exact keep i _ ha
    · rw [List.getElem?_set_ne (by omega)] at hg
      have e : rowAt ((m.set i (rowAt m j)).set j (rowAt m i)) t = rowAt (m.set i (rowAt m j)) t := by simp [rowAt, List.getElem?_set_ne (show j ≠ t by omega)]
      rw [e]
      by_cases p2 : t = i
      · subst p2
        rw [List.getElem?_set_self hi, Option.some.injEq] at hg
        subst hg
        have e : rowAt (m.set t (rowAt m j)) t = rowAt m j := by
          have : t < m.length := by omega
          simp [rowAt, this]
        rw [e]
        exact keep j _ hb
      · rw [List.getElem?_set_ne (by omega)] at hg
        have e : rowAt (m.set i (rowAt m j)) t = rowAt m t := by simp [rowAt, List.getElem?_set_ne (show i ≠ t by omega)]
        rw [e]
        exact keep t _ hg
abbrev putp (w : World) (g t : Nat) (x y : Value) : World := (w.setCell ⟨g, t * 2, none⟩ x).setCell ⟨g, t * 2 + 1, none⟩ y
/-- One number of a row is written over. -/
theorem Sht.put {B c k : Nat} {w : World} {lv : Value} {gs : List Nat} {m : List (List Int)} (h : Sht B w lv c gs m k) {i g t : Nat} (hg : gs[i]? = some g) (ht : t < c) {x y : Value} {z : Int} (hz : Zc w (.agg #[x, y]) z k) :
    Sht B (putp w g t x y) lv c gs (m.set i ((rowAt m i).set t z)) k ∧ Below B w (putp w g t x y) ∧ Kw w (putp w g t x y) := by
  have hb := h
  obtain ⟨h1, h2, h3, h4, h5, h6⟩ := h
  have hi : i < gs.length := (List.getElem?_eq_some_iff.1 hg).1
  have hBg : B ≤ g := h4 _ (List.mem_of_getElem? hg)
  obtain ⟨ps, p1, p2⟩ := h6 i g hg
  have hpl : ps.length = c := by rw [p2.1]; exact h5.at (by omega)
  have hwk := p1.wk (i := t) (by omega) x y
  have e := flat_get (List.getElem?_eq_getElem (show t < ps.length by omega))
  obtain ⟨n0, a0, l0, c0, eI⟩ := p1.2 _ (List.getElem_mem (show t < ps.length by omega))
  rw [eI] at e
  have k1 : Kw w (w.setCell ⟨g, t * 2, none⟩ x) := Kw.set (show w.heap[g]? = _ from p1.1) (.inl rfl) (p1.1.at e.1) (noB _)
  have k2 : Kw (w.setCell ⟨g, t * 2, none⟩ x) (putp w g t x y) := by
    have d := p1.1.set (t * 2) x
    refine Kw.set (show (w.setCell ⟨g, t * 2, none⟩ x).heap[g]? = _ from d) (.inl rfl) (d.at (i := t * 2 + 1) (v := .slice a0 l0 c0) ?_) (noS _ _ _)
    rw [List.getElem?_set_ne (by omega)]
    exact e.2
  have kk := k1.trans k2
  refine ⟨⟨owns_keep h1 (fun b hb' hlt => ?_), h2, by simpa using h3, h4, h5.set (by rw [List.length_set]; exact h5.at (by omega)), fun j g' hg' => ?_⟩, bset (bset (Below.refl _ _) hBg) hBg, kk⟩
  · have hne : b ≠ g := fun q => by
      subst q
      obtain ⟨_, ⟨q2, _⟩ | ⟨g', cap', cur, q2, q3, q4, q5, q6⟩⟩ := h1
      · rw [q2] at hb'; cases hb'
      · rw [q2] at hb'
        simp only [Value.ownBlock, Option.some.injEq] at hb'
        subst hb'
        have := q4.symm.trans (show w.heap[_]? = _ from p1.1)
        simp at this
    exact (Below.heap_setCell _ _ y b (fun q => hne (by simpa using q))).trans (Below.heap_setCell w _ x b (fun q => hne (by simpa using q)))
  · by_cases q : j = i
    · subst q
      rw [hg, Option.some.injEq] at hg'
      subst hg'
      have e : rowAt (m.set j ((rowAt m j).set t z)) j = (rowAt m j).set t z := by
        have : j < m.length := by omega
        simp [rowAt, this]
      rw [e]
      refine ⟨_, p1.put (by omega) hz.zi.isI, ?_⟩
      have hz' := hz.wk hwk
      have p2' := p2.wk hwk
      refine ⟨by simp [p2.1], fun s p z' hp hzz => ?_⟩
      by_cases r : s = t
      · subst r
        rw [List.getElem?_set_self (by omega), Option.some.injEq] at hp
        rw [List.getElem?_set_self (by rw [← p2.1]; omega), Option.some.injEq] at hzz
        subst hp hzz
        exact hz'
      · rw [List.getElem?_set_ne (by omega)] at hp hzz
        exact p2'.2 s p z' hp hzz
    · have hne : g ≠ g' := fun e => by
        subst e
        exact q (h2 j i g hg' hg)
      obtain ⟨qs, r1, r2⟩ := h6 j g' hg'
      have e : rowAt (m.set i ((rowAt m i).set t z)) j = rowAt m j := by simp [rowAt, List.getElem?_set_ne (show i ≠ j by omega)]
      rw [e]
      exact ⟨qs, ⟨(r1.1.ne hne).ne hne, r1.2⟩, r2.wk hwk⟩
end Go.Proofs.Ytplldfnldaehiaa

/- UnitA9 -/
namespace Go.Proofs.Ytplldfnldaehiaa
open Go.RowKit
set_option linter.unusedVariables false

end Go.Proofs.Ytplldfnldaehiaa

/- Wk9 -/
namespace Go.Proofs.Ytplldfnldaehiaa
open Go.RowKit
set_option linter.unusedVariables false

theorem Mx.wk {w : World} {v : Value} {r c : Nat} {zs : List Int} {k b : Nat} (h : Mx w v r c zs k) {x0 x1 : Int} {a : Option Addr} {l n : Nat} (d : Cel w b 45 [.int .i64 x0, .int .i64 x1, .slice a l n]) (y0 y1 y2 : Value) : Mx (put3 w b y0 y1 y2) v r c zs k := by
  obtain ⟨at_, ps, h1, h2, h3, h4⟩ := h
  refine ⟨at_, ps, h1, ?_, h3.wk (d.wk3 _ _ _), h4⟩
  obtain ⟨a', c', e1, e2, e3, e4, e5⟩ := h2
  refine ⟨a', c', e1, e2, e3, e4, ?_⟩
  rcases e5 with e5 | ⟨b', off, e6, e7, e8, e9⟩
  · exact .inl e5
  · refine .inr ⟨b', off, e6, e7, by simpa using e8, fun j p hp => ?_⟩
    have hne : b ≠ b' := by
      intro e
      subst e
      obtain ⟨n1, a1, l1, c1, q⟩ := h3.isI p (List.mem_of_getElem? hp)
      have q1 := (e9 j p hp).1
      rw [show p.1 = .bool n1 by rw [q]] at q1
      have q2 : w.heap[b]? = some (.cells #[.int .i64 x0, .int .i64 x1, .slice a l n] 45 (0, 0)) := d
      simp only [World.cell?, q2] at q1
      simp at q1
      generalize off + j * 2 = o at q1
      match o, q1 with
      | 0, q1 => simp at q1
      | 1, q1 => simp at q1
      | 2, q1 => simp at q1
      | o + 3, q1 => simp at q1
    have e : ∀ o, (put3 w b y0 y1 y2).cell? ⟨b', o, none⟩ = w.cell? ⟨b', o, none⟩ := fun o => by
      rw [World.cell?_setCell_other _ _ _ _ (by simp <;> omega), World.cell?_setCell_other _ _ _ _ (by simp <;> omega), World.cell?_setCell_other _ _ _ _ (by simp <;> omega)]
    rw [e, e]
    exact e9 j p hp
end Go.Proofs.Ytplldfnldaehiaa

/- Turn9 -/
namespace Go.Proofs.Ytplldfnldaehiaa
open Go.RowKit
set_option linter.unusedVariables false

theorem Zis.append {w : World} {ps qs : List (Value × Value)} {zs ys : List Int} {k : Nat} (h : Zis w ps zs k) (h' : Zis w qs ys k) : Zis w (ps ++ qs) (zs ++ ys) k := by
  refine ⟨by simp [h.1, h'.1], fun j p z hp hz => ?_⟩
  by_cases q : j < ps.length
  · rw [List.getElem?_append_left q] at hp
    rw [List.getElem?_append_left (by rw [← h.1]; exact q)] at hz
    exact h.2 j p z hp hz
  · rw [List.getElem?_append_right (by omega)] at hp
    rw [List.getElem?_append_right (by rw [← h.1]; omega), ← h.1] at hz
    exact h'.2 _ p z hp hz
theorem Ziss.flat {w : World} {k : Nat} : ∀ {pss : List (List (Value × Value))} {zss : List (List Int)}, Ziss w pss zss k → Zis w pss.flatten zss.flatten k
  | [], [], _ => ⟨rfl, fun j p z hp => by simp at hp⟩
  | [], z :: zss, h => by have := h.1; simp at this
  | p :: pss, [], h => by have := h.1; simp at this
  | p :: pss, z :: zss, h => by
    have h1 := h.2 0 p rfl
    have h2 : Ziss w pss zss k := ⟨by have := h.1; simpa using this, fun j ps hp => by simpa using h.2 (j + 1) ps (by simpa using hp)⟩
    simpa using Zis.append h1 (Ziss.flat h2)
abbrev fnLeast : Value := .func (.func 36) #[] #[]
theorem two_boxes {w W0 : World} {o1 : List Value} (hW : (w.alloc (.cells o1.toArray 45)).alloc mbox = W0) :
    Cel W0 w.heap.size 45 o1 ∧ Cel W0 (w.heap.size + 1) 45 [.int .i64 0, .int .i64 0, .slice none 0 0] := by
  refine ⟨?_, ?_⟩
  · rw [← hW]
    exact (Cel.new w 45 o1).step ((Below.refl _ _).alloc (Nat.le_refl _) _)
  · rw [← hW]
    have := Cel.new (w.alloc (.cells o1.toArray 45)) 45 [.int .i64 0, .int .i64 0, .slice none 0 0]
    simpa using this
end Go.Proofs.Ytplldfnldaehiaa

/- OpenM9 -/
namespace Go.Proofs.Ytplldfnldaehiaa
open Go.ChangeShapes Go.WideShapes Go.ChangeAt Go.RowKit
set_option linter.unusedVariables false

/-- A matrix as it comes in, sound or not. -/
def Raw (w : World) (v : Value) (r c : Int) (l : Nat) (zs : List Int) : Prop := ∃ a cap ps, v = .agg #[.int .i64 r, .int .i64 c, .slice a l cap] ∧ Prs 0 w (.slice a l cap) ps ∧ Zis w ps zs 1048576 ∧ zs.length = l ∧ l ≤ 1048576
theorem Raw.now {w w' : World} {v : Value} {r c : Int} {l : Nat} {zs : List Int} (h : Raw w v r c l zs) (hb : Below w.heap.size w w') : Raw w' v r c l zs := by
  obtain ⟨a, cap, ps, h1, h2, h3, h4⟩ := h
  exact ⟨a, cap, ps, h1, h2.now hb, h3.now hb, h4⟩
theorem Raw.mx {w : World} {v : Value} {r c l : Nat} {zs : List Int} (h : Raw w v (r : Int) (c : Int) l zs) (hs : Snd (r : Int) (c : Int) l) : Mx w v r c zs 1048576 := by
  obtain ⟨a, cap, ps, h1, h2, h3, h4, h5⟩ := h
  obtain ⟨s1, s2, s3, s4, s5⟩ := hs
  exact ⟨_, ps, h1, h2, h3, by rw [h4]; exact Int.ofNat.inj (by simpa using s5), by omega, by omega⟩
end Go.Proofs.Ytplldfnldaehiaa

/- ChkN9 -/
namespace Go.Proofs.Ytplldfnldaehiaa
open Go.RowKit
set_option linter.unusedVariables false

end Go.Proofs.Ytplldfnldaehiaa
