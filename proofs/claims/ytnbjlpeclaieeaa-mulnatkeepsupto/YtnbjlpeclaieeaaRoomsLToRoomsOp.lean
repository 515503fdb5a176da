/-
  RoomsLToRoomsOp: RoomsL, RoomsOp, joined.
-/
import Derived.Test.YtnbjlpeclaieeaaOverToRooms
import Derived.Test.YtnbjlpeclaieeaaBook0
import Derived.Test.YtnbjlpeclaieeaaCopiesToOpenOp6

/- RoomsL -/
namespace Go.Proofs.Ytnbjlpeclaieeaa
open Go.RowKit
set_option linter.unusedVariables false

abbrev roomV (g n : Nat) : Value := .slice (some ⟨g, 0, none⟩) (n + 80) (n + 80)
abbrev headV (g n : Nat) : Value := .slice (some ⟨g, 0, none⟩) n (n + 80)
/-- The first k lists have a room each, all apart, behind the two rows g1 and g2. -/
def RoomsL (wr : World) (g1 g2 : Nat) (Xs : List (List Int)) (R : Nat → Nat) (V1 V2 : List Value) (k : Nat) : Prop :=
  RowS wr g1 V1 ∧ RowS wr g2 V2 ∧ V1.length = Xs.length ∧ V2.length = Xs.length + 2 ∧ g1 < g2 ∧
  ∀ i (h : i < Xs.length), i < k → V1[i]? = some (roomV (R i) Xs[i].length) ∧ V2[i]? = some (headV (R i) Xs[i].length) ∧ Rm wr (R i) Xs[i] ∧ g2 < R i ∧ ∀ j, j < i → R j < R i
theorem RowS.setOther {w : World} {g b j : Nat} {L : List Value} {u : Value} (h : RowS w g L) (hne : g ≠ b) : RowS (w.setCell ⟨b, j, none⟩ u) g L := by
  unfold RowS at h ⊢
  rw [heap_setCell_other w _ g _ hne]
  exact h
theorem Rm.setOther {w : World} {g b j : Nat} {xs : List Int} {u : Value} (h : Rm w g xs) (hne : g ≠ b) : Rm (w.setCell ⟨b, j, none⟩ u) g xs := by
  unfold Rm Row at h ⊢
  rw [heap_setCell_other w _ g _ hne]
  exact h
theorem RowS.now {w w' : World} {g : Nat} {L : List Value} (h : RowS w g L) (hb : Below w.heap.size w w') : RowS w' g L := (hb.block g h.lt).trans h
theorem RoomsL.start {w : World} {g1 g2 n : Nat} {Xs : List (List Int)} (h1 : RowS w g1 (List.replicate Xs.length (.slice none 0 0))) (h2 : RowS w g2 (List.replicate (Xs.length + 2) (.slice none 0 0))) (hg : g1 < g2) (R : Nat → Nat) :
    RoomsL w g1 g2 Xs R (List.replicate Xs.length (.slice none 0 0)) (List.replicate (Xs.length + 2) (.slice none 0 0)) 0 :=
  ⟨h1, h2, by simp, by simp, hg, fun i _ h => absurd h (Nat.not_lt_zero _)⟩
theorem RoomsL.now {w w' : World} {g1 g2 k : Nat} {Xs : List (List Int)} {R : Nat → Nat} {V1 V2 : List Value} (h : RoomsL w g1 g2 Xs R V1 V2 k) (hb : Below w.heap.size w w') : RoomsL w' g1 g2 Xs R V1 V2 k := by
  obtain ⟨h1, h2, h3, h4, h5, h6⟩ := h
  exact ⟨h1.now hb, h2.now hb, h3, h4, h5, fun i hi hk => by
    obtain ⟨a, b, c, d⟩ := h6 i hi hk
    exact ⟨a, b, c.step hb, d⟩⟩
theorem RoomsL.step {w w1 : World} {g1 g2 k : Nat} {Xs : List (List Int)} {R : Nat → Nat} {V1 V2 : List Value} (h : RoomsL w g1 g2 Xs R V1 V2 k) (hk : k < Xs.length) (hb : Below w.heap.size w w1) (hr : Rm w1 w.heap.size Xs[k]) :
    RoomsL ((w1.setCell ⟨g1, k, none⟩ (roomV w.heap.size Xs[k].length)).setCell ⟨g2, k, none⟩ (headV w.heap.size Xs[k].length)) g1 g2 Xs (fun i => if i = k then w.heap.size else R i) (V1.set k (roomV w.heap.size Xs[k].length)) (V2.set k (headV w.heap.size Xs[k].length)) (k + 1) := by
  have h' := h.now hb
  obtain ⟨_, q2, _, _, _, q6⟩ := h
  have hg2 : g2 < w.heap.size := q2.lt
  obtain ⟨h1, h2, h3, h4, h5, h6⟩ := h'
  refine ⟨(h1.set k _).setOther (by omega), (h2.setOther (by omega)).set k _, by simpa using h3, by simpa using h4, h5, fun i hi hik => ?_⟩
  by_cases e : i = k
  · subst e
    simp only [if_true]
    refine ⟨by simp [h3, hi], by rw [List.getElem?_set_self (by omega)], (hr.setOther (by omega)).setOther (by omega), hg2, fun j hj => ?_⟩
    rw [if_neg (by omega)]
    exact (q6 j (by omega) hj).2.2.1.lt
  · obtain ⟨a, b, c, d, f⟩ := h6 i hi (by omega)
    simp only [if_neg e]
    refine ⟨by rw [List.getElem?_set_ne (by omega)]; exact a, by rw [List.getElem?_set_ne (by omega)]; exact b, (c.setOther (by omega)).setOther (by omega), d, fun j hj => ?_⟩
    rw [if_neg (by omega)]
    exact f j hj
/-- The two last places of the second row. -/
theorem RoomsL.last {w : World} {g1 g2 j : Nat} {Xs : List (List Int)} {R : Nat → Nat} {V1 V2 : List Value} {u : Value} (h : RoomsL w g1 g2 Xs R V1 V2 Xs.length) (hj : Xs.length ≤ j) : RoomsL (w.setCell ⟨g2, j, none⟩ u) g1 g2 Xs R V1 (V2.set j u) Xs.length := by
  obtain ⟨h1, h2, h3, h4, h5, h6⟩ := h
  refine ⟨h1.setOther (by omega), h2.set j u, h3, by simpa using h4, h5, fun i hi hk => ?_⟩
  obtain ⟨a, b, c, d⟩ := h6 i hi hk
  exact ⟨a, by rw [List.getElem?_set_ne (by omega)]; exact b, c.setOther (by omega), d⟩
/-- A room that is written over: the others stay. -/
theorem RoomsL.turn {w w' : World} {g1 g2 i : Nat} {Xs : List (List Int)} {R : Nat → Nat} {V1 V2 : List Value} {T : List Int} (h : RoomsL w g1 g2 Xs R V1 V2 Xs.length) (hi : i < Xs.length) (hl : T.length = Xs[i].length) (ht : Touch (· = R i) w w') (hr : Rm w' (R i) T) :
    RoomsL w' g1 g2 (Xs.set i T) R V1 V2 (Xs.set i T).length := by
  obtain ⟨h1, h2, h3, h4, h5, h6⟩ := h
  have gi := (h6 i hi hi).2.2.2.1
  refine ⟨(ht.block g1 h1.lt (by omega)).trans h1, (ht.block g2 h2.lt (by omega)).trans h2, by simpa using h3, by simpa using h4, h5, fun j hj _ => ?_⟩
  have hj' : j < Xs.length := by simpa using hj
  obtain ⟨a, b, c, d, f⟩ := h6 j hj' hj'
  by_cases e : i = j
  · subst e
    simp only [List.getElem_set_self]
    rw [hl]
    exact ⟨a, b, hr, d, f⟩
  · rw [List.getElem_set_ne e]
    refine ⟨a, b, c.touch ht (fun q => ?_), d, f⟩
    rcases Nat.lt_or_gt_of_ne e with e | e
    · have := f i e; omega
    · have := (h6 i hi hi).2.2.2.2 j e; omega
end Go.Proofs.Ytnbjlpeclaieeaa

/- RoomsOp -/
namespace Go.Proofs.Ytnbjlpeclaieeaa
open Go.RowKit
set_option linter.unusedVariables false

theorem tot_get (Xs : List (List Int)) {i : Nat} (h : i < Xs.length) : Xs[i].length ≤ tot Xs := by
  have := tot_halves Xs i
  have e : Xs.drop i = Xs[i] :: Xs.drop (i + 1) := List.drop_eq_getElem_cons h
  rw [e, tot] at this
  omega
theorem RoomsL.cell1 {w : World} {g1 g2 i : Nat} {Xs : List (List Int)} {R : Nat → Nat} {V1 V2 : List Value} (h : RoomsL w g1 g2 Xs R V1 V2 Xs.length) (hi : i < Xs.length) : w.cell? ⟨g1, i, none⟩ = some (roomV (R i) Xs[i].length) := by
  obtain ⟨h1, _, h3, _, _, h6⟩ := h
  have := (h6 i hi hi).1
  rw [h1.cell (by omega)]
  rw [← this]
  simp [h3, hi]
theorem RoomsL.cell2 {w : World} {g1 g2 i : Nat} {Xs : List (List Int)} {R : Nat → Nat} {V1 V2 : List Value} (h : RoomsL w g1 g2 Xs R V1 V2 Xs.length) (hi : i < Xs.length) : w.cell? ⟨g2, i, none⟩ = some (headV (R i) Xs[i].length) := by
  obtain ⟨_, h2, _, h4, _, h6⟩ := h
  have := (h6 i hi hi).2.1
  rw [h2.cell (by omega)]
  rw [← this]
  simp
/-- The heads, as a list of lists. -/
theorem RoomsL.ls {w : World} {g1 g2 : Nat} {Xs : List (List Int)} {R : Nat → Nat} {V1 V2 : List Value} (h : RoomsL w g1 g2 Xs R V1 V2 Xs.length) (hw : ∀ x ∈ Xs, WF x) (ht : tot Xs ≤ 1048576) (hl : Xs.length ≤ 1048576) : Ls w.heap.size w (.slice (some ⟨g2, 0, none⟩) Xs.length (Xs.length + 2)) Xs := by
  refine ⟨_, _, rfl, by omega, by omega, .inr ⟨g2, 0, rfl, h.2.1.lt, fun j hj => ⟨headV (R j) Xs[j].length, by rw [Nat.zero_add]; exact h.cell2 hj, ?_, .inr ⟨_, _, _, rfl⟩⟩⟩⟩
  have hg := tot_get Xs hj
  exact (h.2.2.2.2.2 j hj hj).2.2.1.part (hw _ (List.getElem_mem hj)) rfl (by omega)
/-- The step in its rooms. -/
abbrev roomD (d : OpD) (ra rb rc g2 : Nat) : OpD := ⟨d.kind, headV ra d.xs.length, d.xs, headV rb d.ys.length, d.ys, headV rc d.zs.length, d.zs, d.n, .slice (some ⟨g2, 0, none⟩) d.Xs.length (d.Xs.length + 2), d.Xs⟩
theorem OpOk.rooms {w0 w : World} {d : OpD} {ra rb rc g1 g2 : Nat} {R : Nat → Nat} {V1 V2 : List Value} (h : OpOk w0 d) (ha : Rm w ra d.xs) (hb : Rm w rb d.ys) (hc : Rm w rc d.zs) (hL : RoomsL w g1 g2 d.Xs R V1 V2 d.Xs.length) : OpOk w (roomD d ra rb rc g2) := by
  have la := h.la
  have lb := h.lb
  have lc := h.lc
  exact ⟨ha.part h.sa.1 rfl (by omega), .inr ⟨_, _, _, rfl⟩, h.la, hb.part h.sb.1 rfl (by omega), .inr ⟨_, _, _, rfl⟩, h.lb, hc.part h.sc.1 rfl (by omega), .inr ⟨_, _, _, rfl⟩, h.lc, hL.ls h.sl.wf h.lt h.ll, h.ll, h.lt, h.n0, h.n1⟩
/-- An answer, as the book wants it. -/
theorem Mine.ow {B : Nat} {w : World} {v : Value} {zs : List Int} (h : Mine B w v zs) : Ow w v zs := by
  obtain ⟨_, ⟨h1, h2⟩ | ⟨g, r, cap, h1, h2, h3, h4, h5, h6⟩⟩ := h
  · subst h1 h2; exact Ow.nil w
  · rcases h4 with rfl | ⟨rfl, h4⟩
    · subst h5; exact h6.owTight h2
    · subst h5
      exact .inl ⟨by simp [length_ws], .inr ⟨g, _, _, rfl, Nat.zero_le _, h6, by omega, h4, by simp [length_ws], by simp [length_ws]⟩⟩
end Go.Proofs.Ytnbjlpeclaieeaa
