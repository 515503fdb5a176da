/-
  QEach9ToPr12: Each9, DotsA9, ColsP9, Cols9, Prod9, Mat9, Chk9, Mul9, Unit9, Add9, Law9, Wake9, Pure9, St11, Ty9, Sh11, UnitA9, Wk9, Turn9, OpenM9, ChkN9, LeastA9, EachM11, Ln11, Of11, Touch, Pr12, joined.
-/
import Derived.Test.YtcceoildbnoliaaGreatQCat9
import Derived.Laws.OwnMore
import Derived.Test.YtcceoildbnoliaaGreatQExt6ToRf11
import Derived.Test.YtcceoildbnoliaaGreatQWordsToCarry
import Derived.Below

/- Each9 -/
namespace Go.Proofs.YtcceoildbnoliaaGreat
open Go.RowKit
set_option linter.unusedVariables false

end Go.Proofs.YtcceoildbnoliaaGreat

/- DotsA9 -/
namespace Go.Proofs.YtcceoildbnoliaaGreat
open Go.RowKit
set_option linter.unusedVariables false

end Go.Proofs.YtcceoildbnoliaaGreat

/- ColsP9 -/
namespace Go.Proofs.YtcceoildbnoliaaGreat
open Go.RowKit
set_option linter.unusedVariables false

end Go.Proofs.YtcceoildbnoliaaGreat

/- Cols9 -/
namespace Go.Proofs.YtcceoildbnoliaaGreat
open Go.RowKit
set_option linter.unusedVariables false

end Go.Proofs.YtcceoildbnoliaaGreat

/- Prod9 -/
namespace Go.Proofs.YtcceoildbnoliaaGreat
open Go.RowKit
set_option linter.unusedVariables false

end Go.Proofs.YtcceoildbnoliaaGreat

/- Mat9 -/
namespace Go.Proofs.YtcceoildbnoliaaGreat
open Go.RowKit
set_option linter.unusedVariables false

end Go.Proofs.YtcceoildbnoliaaGreat

/- Chk9 -/
namespace Go.Proofs.YtcceoildbnoliaaGreat
open Go.RowKit
set_option linter.unusedVariables false

end Go.Proofs.YtcceoildbnoliaaGreat

/- Mul9 -/
namespace Go.Proofs.YtcceoildbnoliaaGreat
open Go.RowKit
set_option linter.unusedVariables false

end Go.Proofs.YtcceoildbnoliaaGreat

/- Unit9 -/
namespace Go.Proofs.YtcceoildbnoliaaGreat
open Go.RowKit
set_option linter.unusedVariables false

theorem Arr.ne {w : World} {g b i : Nat} {u : Value} {ps : List (Value × Value)} (h : Arr w g ps) (hne : b ≠ g) : Arr (w.setCell ⟨b, i, none⟩ u) g ps := ⟨h.1.ne hne, h.2⟩
end Go.Proofs.YtcceoildbnoliaaGreat

/- Add9 -/
namespace Go.Proofs.YtcceoildbnoliaaGreat
open Go.RowKit
set_option linter.unusedVariables false

end Go.Proofs.YtcceoildbnoliaaGreat

/- Law9 -/
namespace Go.Proofs.YtcceoildbnoliaaGreat
open Go.RowKit
set_option linter.unusedVariables false

/-- Sound, by the numbers. -/
def Snd (r c : Int) (l : Nat) : Prop := 0 ≤ r ∧ r ≤ 64 ∧ 0 ≤ c ∧ c ≤ 64 ∧ (l : Int) = r * c
end Go.Proofs.YtcceoildbnoliaaGreat

/- Wake9 -/
namespace Go.Proofs.YtcceoildbnoliaaGreat
open Go.RowKit
set_option linter.unusedVariables false

end Go.Proofs.YtcceoildbnoliaaGreat

/- Pure9 -/
namespace Go.Proofs.YtcceoildbnoliaaGreat
set_option linter.unusedVariables false

end Go.Proofs.YtcceoildbnoliaaGreat

/- St11 -/
namespace Go.Proofs.YtcceoildbnoliaaGreat
set_option linter.unusedVariables false

def rowAt (zss : List (List Int)) (i : Nat) : List Int := zss.getD i []
/-- All rows are of one length. -/
def Wide (c : Nat) (m : List (List Int)) : Prop := ∀ r ∈ m, r.length = c
end Go.Proofs.YtcceoildbnoliaaGreat

/- Ty9 -/
namespace Go.Proofs.YtcceoildbnoliaaGreat
open Go.RowKit
set_option linter.unusedVariables false

/-- Blocks of other types than T are as they were. -/
def Ty (T : TypeId) (w w' : World) : Prop := w.heap.size ≤ w'.heap.size ∧ ∀ (b : Nat) (L : Array Value) (T' : TypeId) (fr : Nat × Nat), w.heap[b]? = some (.cells L T' fr) → T' ≠ T → w'.heap[b]? = some (.cells L T' fr)
theorem Ty.of {T : TypeId} {w w' : World} (h : Below w.heap.size w w') : Ty T w w' := ⟨h.size, fun b L T' fr e _ => (h.block b (Array.getElem?_eq_some_iff.1 e).1).trans e⟩
theorem Ty.trans {T : TypeId} {a b c : World} (h : Ty T a b) (h' : Ty T b c) : Ty T a c := ⟨Nat.le_trans h.1 h'.1, fun g L T' fr e hne => h'.2 g L T' fr (h.2 g L T' fr e hne) hne⟩
theorem Ty.set {T : TypeId} {w : World} {g i : Nat} {L : List Value} {u : Value} (d : Cel w g T L) : Ty T w (w.setCell ⟨g, i, none⟩ u) := by
  refine ⟨by simp, fun b L' T' fr e hne => ?_⟩
  have hb : b ≠ g := fun q => by
    subst q
    have := e.symm.trans (show w.heap[b]? = _ from d)
    simp at this
    exact hne this.2.1
  exact (Below.heap_setCell w _ u b (fun q => hb (by simpa using q))).trans e
theorem Ty.grown {T : TypeId} {w w' : World} {B size n : Nat} {v : Value} {xs : List Value} (h : w.ownsRow B T size v n xs) (hg : w.grownBy w' v.ownBlock) : Ty T w w' := by
  refine ⟨hg.size, fun b L' T' fr e hne => (hg.block b (Array.getElem?_eq_some_iff.1 e).1 (fun q => ?_)).trans e⟩
  obtain ⟨_, ⟨q1, _⟩ | ⟨g, cap, cur, q1, _, q3, _⟩⟩ := h
  · rw [q1] at q; cases q
  · rw [q1] at q
    simp only [Value.ownBlock, Option.some.injEq] at q
    subst q
    have := e.symm.trans q3
    simp at this
    exact hne this.2.1
theorem Zm.ty {T : TypeId} {B k : Nat} {w w' : World} {v : Value} {z : Int} (h : Zm B w v z k) (ht : Ty T w w') (hT : 125 ≠ T) : Zm B w' v z k := by
  obtain ⟨n1, zs, a, c, e, hm, rest⟩ := h
  refine ⟨n1, zs, a, c, e, ?_, rest⟩
  obtain ⟨hw, h | ⟨g, r, cap, h1, h2, h3, h4, h5, h6⟩⟩ := hm
  · exact ⟨hw, .inl h⟩
  · exact ⟨hw, .inr ⟨g, r, cap, h1, h2, h3, h4, h5, ht.2 g _ _ _ h6 hT⟩⟩
/-- The pairs stand for these integers, each in least form with memory of its own. -/
def Zms (w : World) (ps : List (Value × Value)) (zs : List Int) (k : Nat) : Prop := ps.length = zs.length ∧ ∀ (j : Nat) (p : Value × Value) (z : Int), ps[j]? = some p → zs[j]? = some z → Zm 0 w (.agg #[p.1, p.2]) z k
theorem Zms.ty {T : TypeId} {w w' : World} {ps : List (Value × Value)} {zs : List Int} {k : Nat} (h : Zms w ps zs k) (ht : Ty T w w') (hT : 125 ≠ T) : Zms w' ps zs k := ⟨h.1, fun j p z hp hz => (h.2 j p z hp hz).ty ht hT⟩
theorem Zms.now {w w' : World} {ps : List (Value × Value)} {zs : List Int} {k : Nat} (h : Zms w ps zs k) (hb : Below w.heap.size w w') : Zms w' ps zs k := ⟨h.1, fun j p z hp hz => (h.2 j p z hp hz).now hb⟩
theorem Zms.zcs {w : World} {ps : List (Value × Value)} {zs : List Int} {k : Nat} (h : Zms w ps zs k) : Zcs w ps zs k := ⟨h.1, fun j p z hp hz => (h.2 j p z hp hz).zc⟩
theorem Zms.append {w : World} {ps qs : List (Value × Value)} {zs ys : List Int} {k : Nat} (h : Zms w ps zs k) (h' : Zms w qs ys k) : Zms w (ps ++ qs) (zs ++ ys) k := by
  refine ⟨by simp [h.1, h'.1], fun j p z hp hz => ?_⟩
  by_cases q : j < ps.length
  · rw [List.getElem?_append_left q] at hp
    rw [List.getElem?_append_left (by rw [← h.1]; exact q)] at hz
    exact h.2 j p z hp hz
  · rw [List.getElem?_append_right (by omega)] at hp
    rw [List.getElem?_append_right (by rw [← h.1]; omega), ← h.1] at hz
    exact h'.2 _ p z hp hz
def Zmss (w : World) (pss : List (List (Value × Value))) (zss : List (List Int)) (k : Nat) : Prop := pss.length = zss.length ∧ ∀ (j : Nat) (ps : List (Value × Value)), pss[j]? = some ps → Zms w ps (zss.getD j []) k
theorem Zmss.flat {w : World} {k : Nat} : ∀ {pss : List (List (Value × Value))} {zss : List (List Int)}, Zmss w pss zss k → Zms w pss.flatten zss.flatten k
  | [], [], _ => ⟨rfl, fun j p z hp => by simp at hp⟩
  | [], z :: zss, h => by have := h.1; simp at this
  | p :: pss, [], h => by have := h.1; simp at this
  | p :: pss, z :: zss, h => by
    have h1 := h.2 0 p rfl
    have h2 : Zmss w pss zss k := ⟨by have := h.1; simpa using this, fun j ps hp => by simpa using h.2 (j + 1) ps (by simpa using hp)⟩
    simpa using Zms.append h1 (Zmss.flat h2)
/-- An array that a loop fills with integers of their own. -/
def FilM (wx : World) (g n i : Nat) (F : Nat → Int) (k : Nat) : Prop := ∃ ps, Arr wx g ps ∧ ps.length = n ∧ ∀ (j : Nat) (p : Value × Value), j < i → ps[j]? = some p → Zm 0 wx (.agg #[p.1, p.2]) (F j) k
theorem FilM.start {w : World} {g n : Nat} (h : Arr w g (List.replicate n zpair)) (F : Nat → Int) (k : Nat) : FilM w g n 0 F k := ⟨_, h, by simp, fun j p hj => by omega⟩
theorem FilM.step {w w' : World} {g n i : Nat} {F : Nat → Int} {k : Nat} (h : FilM w g n i F k) (hb : Below w.heap.size w w') : FilM w' g n i F k := by
  obtain ⟨ps, h1, h2, h3⟩ := h
  exact ⟨ps, h1.step hb, h2, fun j p hj hp => (h3 j p hj hp).now hb⟩
theorem FilM.put {w : World} {g n i : Nat} {F : Nat → Int} {k : Nat} {x y : Value} (h : FilM w g n i F k) (hi : i < n) (hz : Zm 0 w (.agg #[x, y]) (F i) k) : FilM ((w.setCell ⟨g, i * 2, none⟩ x).setCell ⟨g, i * 2 + 1, none⟩ y) g n (i + 1) F k := by
  obtain ⟨ps, h1, h2, h3⟩ := h
  have ht : Ty 45 w ((w.setCell ⟨g, i * 2, none⟩ x).setCell ⟨g, i * 2 + 1, none⟩ y) := (Ty.set h1.1).trans (Ty.set (h1.1.set _ _))
  refine ⟨ps.set i (x, y), h1.put (by omega) hz.zi.isI, by simpa using h2, fun j p hj hp => ?_⟩
  by_cases q : j = i
  · subst q
    rw [List.getElem?_set_self (by omega), Option.some.injEq] at hp
    subst hp
    exact hz.ty ht (by decide)
  · rw [List.getElem?_set_ne (by omega)] at hp
    exact (h3 j p (by omega) hp).ty ht (by decide)
theorem FilM.cells {w : World} {g n i j : Nat} {F : Nat → Int} {k : Nat} (h : FilM w g n i F k) (hj : j < n) : ∃ m a l c, w.cell? ⟨g, j * 2, none⟩ = some (.bool m) ∧ w.cell? ⟨g, j * 2 + 1, none⟩ = some (.slice a l c) ∧ w.frozen? ⟨g, j * 2, none⟩ = false ∧ w.frozen? ⟨g, j * 2 + 1, none⟩ = false := by
  obtain ⟨ps, h1, h2, h3⟩ := h
  have hp : ps[j]? = some (ps[j]'(by omega)) := List.getElem?_eq_getElem (by omega)
  obtain ⟨m, a, l, c, e⟩ := h1.2 _ (List.getElem_mem (l := ps) (n := j) (by omega))
  have q := h1.at hp
  rw [e] at q
  exact ⟨m, a, l, c, q.1, q.2, h1.1.fz _, h1.1.fz _⟩
end Go.Proofs.YtcceoildbnoliaaGreat

/- Sh11 -/
namespace Go.Proofs.YtcceoildbnoliaaGreat
open Go.RowKit
set_option linter.unusedVariables false

def rowv (c g : Nat) : Value := .slice (some ⟨g, 0, none⟩) c c
/-- Each once. -/
def Ones (gs : List Nat) : Prop := ∀ (i j g : Nat), gs[i]? = some g → gs[j]? = some g → i = j
/-- The list lv of rows, arrays gs of c integers each, in memory from block B on. -/
def Sht (B : Nat) (w : World) (lv : Value) (c : Nat) (gs : List Nat) (m : List (List Int)) (k : Nat) : Prop :=
  w.ownsRow B 33 1 lv gs.length (gs.map (rowv c)) ∧ Ones gs ∧ gs.length = m.length ∧ (∀ g ∈ gs, B ≤ g) ∧ Wide c m ∧
    ∀ (j g : Nat), gs[j]? = some g → ∃ ps, Arr w g ps ∧ Zcs w ps (rowAt m j) k
theorem Sht.form {B c k : Nat} {w : World} {lv : Value} {gs : List Nat} {m : List (List Int)} (h : Sht B w lv c gs m k) : ∃ a cap, lv = .slice a m.length cap ∧ m.length ≤ cap ∧ (0 < m.length → ∃ L, a = some ⟨L, 0, none⟩ ∧ B ≤ L ∧ L < w.heap.size) := by
  obtain ⟨⟨q1, ⟨q2, q3⟩ | ⟨g, cap, cur, q2, q3, q4, q5, q6⟩⟩, h2, h3, h4, h5, h6⟩ := h
  · exact ⟨none, 0, by rw [q2, ← h3, q3], by omega, fun q => by omega⟩
  · exact ⟨_, cap, by rw [q2, ← h3], by omega, fun _ => ⟨g, rfl, q3, (Array.getElem?_eq_some_iff.1 q4).1⟩⟩
abbrev putp (w : World) (g t : Nat) (x y : Value) : World := (w.setCell ⟨g, t * 2, none⟩ x).setCell ⟨g, t * 2 + 1, none⟩ y
end Go.Proofs.YtcceoildbnoliaaGreat

/- UnitA9 -/
namespace Go.Proofs.YtcceoildbnoliaaGreat
open Go.RowKit
set_option linter.unusedVariables false

end Go.Proofs.YtcceoildbnoliaaGreat

/- Wk9 -/
namespace Go.Proofs.YtcceoildbnoliaaGreat
open Go.RowKit
set_option linter.unusedVariables false

end Go.Proofs.YtcceoildbnoliaaGreat

/- Turn9 -/
namespace Go.Proofs.YtcceoildbnoliaaGreat
open Go.RowKit
set_option linter.unusedVariables false

end Go.Proofs.YtcceoildbnoliaaGreat

/- OpenM9 -/
namespace Go.Proofs.YtcceoildbnoliaaGreat
open Go.ChangeShapes Go.WideShapes Go.ChangeAt Go.RowKit
set_option linter.unusedVariables false

end Go.Proofs.YtcceoildbnoliaaGreat

/- ChkN9 -/
namespace Go.Proofs.YtcceoildbnoliaaGreat
open Go.RowKit
set_option linter.unusedVariables false

end Go.Proofs.YtcceoildbnoliaaGreat

/- LeastA9 -/
namespace Go.Proofs.YtcceoildbnoliaaGreat
open Go.RowKit
set_option linter.unusedVariables false

end Go.Proofs.YtcceoildbnoliaaGreat

/- EachM11 -/
namespace Go.Proofs.YtcceoildbnoliaaGreat
open Go.RowKit
set_option linter.unusedVariables false

theorem FilM.doneN {w : World} {g n : Nat} {F : Nat → Int} {k : Nat} (h : FilM w g n n F k) : ∃ ps, Arr w g ps ∧ ps.length = n ∧ Zms w ps ((List.range n).map F) k := by
  obtain ⟨ps, h1, rfl, h3⟩ := h
  refine ⟨ps, h1, rfl, by simp, fun j p z hp hz => ?_⟩
  have hj : j < ps.length := (List.getElem?_eq_some_iff.1 hp).1
  rw [List.getElem?_map, List.getElem?_range hj, Option.map_some, Option.some.injEq] at hz
  subst hz
  exact h3 j p hj hp
end Go.Proofs.YtcceoildbnoliaaGreat

/- Ln11 -/
namespace Go.Proofs.YtcceoildbnoliaaGreat
open Go.RowKit Go.Shelf
set_option linter.unusedVariables false
attribute [local go_sem] Oper.semAt_some

end Go.Proofs.YtcceoildbnoliaaGreat

/- Of11 -/
namespace Go.Proofs.YtcceoildbnoliaaGreat
open Go.RowKit Go.Shelf
set_option linter.unusedVariables false
attribute [local go_sem] Oper.semAt_some

/-- Cells are kept, and so is a sheet. -/
def Kc (X Y : World) : Prop := X.heap.size ≤ Y.heap.size ∧ ∀ (b : Nat) (o : Obj), X.heap[b]? = some o → o.isCells = true → Y.heap[b]? = some o
theorem Kc.cel {X Y : World} (h : Kc X Y) {b : Nat} {T : TypeId} {L : List Value} (d : Cel X b T L) : Cel Y b T L := h.2 b _ d rfl
theorem Kc.arr {X Y : World} (h : Kc X Y) {g : Nat} {ps : List (Value × Value)} (d : Arr X g ps) : Arr Y g ps := ⟨h.cel d.1, d.2⟩
theorem Zm.kc {B k : Nat} {w w' : World} {v : Value} {z : Int} (h : Zm B w v z k) (hk : Kc w w') : Zm B w' v z k := by
  obtain ⟨n1, zs, a, c, e, hm, rest⟩ := h
  refine ⟨n1, zs, a, c, e, ?_, rest⟩
  obtain ⟨hw, h | ⟨g, r, cap, h1, h2, h3, h4, h5, h6⟩⟩ := hm
  · exact ⟨hw, .inl h⟩
  · exact ⟨hw, .inr ⟨g, r, cap, h1, h2, h3, h4, h5, hk.2 g _ h6 rfl⟩⟩
theorem Zms.kc {w w' : World} {ps : List (Value × Value)} {zs : List Int} {k : Nat} (h : Zms w ps zs k) (hk : Kc w w') : Zms w' ps zs k := ⟨h.1, fun j p z hp hz => (h.2 j p z hp hz).kc hk⟩
/-- A sheet that is being made: its numbers have memory of their own. -/
def ShtM (B : Nat) (w : World) (lv : Value) (c : Nat) (gs : List Nat) (m : List (List Int)) (k : Nat) : Prop :=
  w.ownsRow B 33 1 lv gs.length (gs.map (rowv c)) ∧ Ones gs ∧ gs.length = m.length ∧ (∀ g ∈ gs, B ≤ g) ∧ Wide c m ∧ ∀ (j g : Nat), gs[j]? = some g → ∃ ps, Arr w g ps ∧ Zms w ps (rowAt m j) k
theorem ShtM.sht {B c k : Nat} {w : World} {lv : Value} {gs : List Nat} {m : List (List Int)} (h : ShtM B w lv c gs m k) : Sht B w lv c gs m k := by
  obtain ⟨h1, h2, h3, h4, h5, h6⟩ := h
  refine ⟨h1, h2, h3, h4, h5, fun j g hg => ?_⟩
  obtain ⟨ps, p1, p2⟩ := h6 j g hg
  exact ⟨ps, p1, p2.zcs⟩
theorem ShtM.kc {B c k : Nat} {w w' : World} {lv : Value} {gs : List Nat} {m : List (List Int)} (h : ShtM B w lv c gs m k) (hk : Kc w w') : ShtM B w' lv c gs m k := by
  obtain ⟨h1, h2, h3, h4, h5, h6⟩ := h
  refine ⟨?_, h2, h3, h4, h5, fun j g hg => ?_⟩
  · obtain ⟨q1, q2 | ⟨g, cap, cur, q2, q3, q4, q5⟩⟩ := h1
    · exact ⟨q1, .inl q2⟩
    · exact ⟨q1, .inr ⟨g, cap, cur, q2, q3, hk.2 g _ q4 rfl, q5⟩⟩
  · obtain ⟨ps, p1, p2⟩ := h6 j g hg
    exact ⟨ps, hk.arr p1, p2.kc hk⟩
theorem kc_below {X Y : World} (h : Below X.heap.size X Y) : Kc X Y := ⟨h.size, fun b o e _ => (h.block b (Array.getElem?_eq_some_iff.1 e).1).trans e⟩
theorem ShtM.nil (B : Nat) (w : World) (c k : Nat) : ShtM B w (.slice none 0 0) c [] [] k := ⟨World.ownsRow_nil _ _ _ _, fun i j g h => by simp at h, rfl, fun g h => by simp at h, fun r h => by simp at h, fun j g h => by simp at h⟩
/-- One row more. -/
theorem wpList_append_sht (w : World) {ops : Array Oper} {rest : List Oper} {o : Oper} {a : Act} {Q : Exit → Act → World → Prop}
    (hgd : o.guard = none) (s x : Operand) (hop : o.op = .call { callee := .builtin .append, args := #[s, x], argTypes := #[67, 67] })
    (B c k : Nat) (v : Value) (gs : List Nat) (m : List (List Int)) (hs : a.eval s = v) (hB : ShtM B w v c gs m k) (q gx : Nat) (hx : a.eval x = .slice (some ⟨q, 0, none⟩) 1 1) (hc0 : w.cell? ⟨q, 0, none⟩ = some (.slice (some ⟨gx, 0, none⟩) c c))
    (ps : List (Value × Value)) (zs : List Int) (hA : Arr w gx ps) (hz : Zms w ps zs k) (hzl : zs.length = c) (hgx : B ≤ gx) (hnew : ∀ g ∈ gs, g ≠ gx) (hlen : m.length < 64) (hBs : B ≤ w.heap.size)
    (hK : ∀ g' l' cap' w', Hid (ShtM B w' (.slice (some ⟨g', 0, none⟩) l' cap') c (gs ++ [gx]) (m ++ [zs]) k) → Hid (w.grownBy w' v.ownBlock) → Hid (∀ b, v.ownBlock = some b → B ≤ b ∧ ∃ L, w.heap[b]? = some (.cells L 33 (0, 0))) → wpList Tryz.prog ops Q rest (a.put o.dst (.slice (some ⟨g', 0, none⟩) l' cap')) w') :
    wpList Tryz.prog ops Q (o :: rest) a w := by
  obtain ⟨i, hii, hzz, hsz, hby⟩ := info_parts Tryz.infoL9
  obtain ⟨h1, h2, h3, h4, h5, h6⟩ := hB
  have ea : ∀ j, (⟨q, 0, none⟩ : Addr).add j = ⟨q, j, none⟩ := fun j => by unfold Addr.add; split <;> simp_all
  refine wpList_append_lies w hgd s x 67 hop B 33 i (.slice none 0 0) 1 24 Tryz.underlying67 hii hzz hsz hby rfl (by omega) v gs.length (gs.map (rowv c)) hs h1 ⟨q, 0, none⟩ 1 1 [rowv c gx] hx rfl ?_ ?_ (by omega) (by unfold maxLen; omega) (by omega) hBs w.heap.size rfl ?_
  · intro j u' hj
    match j, hj with
    | 0, hj => simp at hj; subst hj; rw [ea]; exact hc0
  · intro u' hu'
    simp at hu'
    subst hu'
    rfl
  · intro g' cap' w' k1 k2 k3 k4
    have ht := Ty.grown h1 k2
    have hown : ∀ b, v.ownBlock = some b → B ≤ b ∧ ∃ L, w.heap[b]? = some (.cells L 33 (0, 0)) := fun b hb => by
      obtain ⟨_, ⟨r2, _⟩ | ⟨g2, cap, cur, r2, r3, r4, r5⟩⟩ := h1
      · rw [r2] at hb; cases hb
      · rw [r2] at hb
        simp only [Value.ownBlock, Option.some.injEq] at hb
        subst hb
        exact ⟨r3, cur, r4⟩
    refine hK g' _ cap' w' ⟨by rw [List.length_append, List.map_append]; exact k1, ?_, by simp [h3], ?_, ?_, fun j g hg => ?_⟩ k2 hown
    · intro s t g hs ht
      have hs1 := (List.getElem?_eq_some_iff.1 hs).1
      have ht1 := (List.getElem?_eq_some_iff.1 ht).1
      simp at hs1 ht1
      by_cases p1 : s < gs.length
      · rw [List.getElem?_append_left p1] at hs
        by_cases p2 : t < gs.length
        · rw [List.getElem?_append_left p2] at ht
          exact h2 s t g hs ht
        · rw [List.getElem?_append_right (by omega)] at ht
          have : t - gs.length = 0 := by omega
          rw [this] at ht
          simp at ht
          exact absurd ht.symm (hnew g (List.mem_of_getElem? hs))
      · by_cases p2 : t < gs.length
        · rw [List.getElem?_append_left p2] at ht
          rw [List.getElem?_append_right (by omega)] at hs
          have : s - gs.length = 0 := by omega
          rw [this] at hs
          simp at hs
          exact absurd hs.symm (hnew g (List.mem_of_getElem? ht))
        · omega
    · intro g hg
      rcases List.mem_append.1 hg with r | r
      · exact h4 g r
      · simp at r; subst r; exact hgx
    · intro r hr
      rcases List.mem_append.1 hr with q' | q'
      · exact h5 r q'
      · simp at q'; subst q'; exact hzl
    · have carry : ∀ g ps', Arr w g ps' → Arr w' g ps' := fun g ps' hA' => ⟨ht.2 g _ _ _ hA'.1 (by decide), hA'.2⟩
      by_cases p : j < gs.length
      · rw [List.getElem?_append_left p] at hg
        obtain ⟨ps', r1, r2⟩ := h6 j g hg
        have e : rowAt (m ++ [zs]) j = rowAt m j := by simp [rowAt, List.getElem?_append_left (show j < m.length by omega)]
        rw [e]
        exact ⟨ps', carry _ _ r1, r2.ty ht (by decide)⟩
      · have hj : j = gs.length := by have := (List.getElem?_eq_some_iff.1 hg).1; simp at this; omega
        subst hj
        simp at hg
        subst hg
        have e : rowAt (m ++ [zs]) gs.length = zs := by simp [rowAt, h3]
        rw [e]
        exact ⟨ps, carry _ _ hA, hz.ty ht (by decide)⟩
theorem ShtM.lt {B c k : Nat} {w : World} {lv : Value} {gs : List Nat} {m : List (List Int)} (h : ShtM B w lv c gs m k) : ∀ g ∈ gs, g < w.heap.size := fun g hg => by
  obtain ⟨j, hj, e⟩ := List.getElem_of_mem hg
  obtain ⟨ps, p1, _⟩ := h.2.2.2.2.2 j g (by rw [List.getElem?_eq_getElem hj, e])
  exact p1.1.blk
theorem owns_mono11 {w : World} {B B' : Nat} {e : TypeId} {size : Nat} {v : Value} {n : Nat} {xs : List Value} (h : w.ownsRow B e size v n xs) (hb : B' ≤ B) : w.ownsRow B' e size v n xs := by
  obtain ⟨q1, q2 | ⟨g, cap, cur, q2, q3, q4⟩⟩ := h
  · exact ⟨q1, .inl q2⟩
  · exact ⟨q1, .inr ⟨g, cap, cur, q2, Nat.le_trans hb q3, q4⟩⟩
end Go.Proofs.YtcceoildbnoliaaGreat

/- Touch -/
namespace Go.Proofs.YtcceoildbnoliaaGreat
open Go.RowKit

/-- Only blocks of S have turned; new ones may be there. -/
structure Touch (S : Nat → Prop) (w w' : World) : Prop where
  os : w'.os = w.os
  tape : w'.tape = w.tape
  output : w'.output = w.output
  size : w.heap.size ≤ w'.heap.size
  block : ∀ k, k < w.heap.size → ¬ S k → w'.heap[k]? = w.heap[k]?
theorem Touch.refl (S : Nat → Prop) (w : World) : Touch S w w := ⟨rfl, rfl, rfl, Nat.le_refl _, fun _ _ _ => rfl⟩
theorem Touch.trans {S : Nat → Prop} {a b c : World} (h : Touch S a b) (k : Touch S b c) : Touch S a c :=
  ⟨k.os.trans h.os, k.tape.trans h.tape, k.output.trans h.output, Nat.le_trans h.size k.size, fun i hi hS => (k.block i (Nat.lt_of_lt_of_le hi h.size) hS).trans (h.block i hi hS)⟩
theorem Touch.ofBelow {S : Nat → Prop} {w w' : World} (h : Below w.heap.size w w') : Touch S w w' := ⟨h.os, h.tape, h.output, h.size, fun k hk _ => h.block k hk⟩
theorem Touch.setCell {S : Nat → Prop} {w0 w : World} (h : Touch S w0 w) {g : Nat} (hg : w0.heap.size ≤ g ∨ S g) (j : Nat) (x : Value) : Touch S w0 (w.setCell ⟨g, j, none⟩ x) := by
  have b := (Below.refl g w).setCell (p := ⟨g, j, none⟩) (Nat.le_refl _) x
  refine ⟨b.os.trans h.os, b.tape.trans h.tape, b.output.trans h.output, Nat.le_trans h.size b.size, fun k hk hS => ?_⟩
  rw [Below.heap_setCell w _ x k (fun e => by subst e; rcases hg with q | q; (· exact absurd hk (by omega)); exact hS q)]
  exact h.block k hk hS
end Go.Proofs.YtcceoildbnoliaaGreat

/- Pr12 -/
namespace Go.Proofs.YtcceoildbnoliaaGreat

end Go.Proofs.YtcceoildbnoliaaGreat
