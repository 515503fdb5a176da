/-
 QSt11ToChkN9: St11, Ty9, Sh11, UnitA9, ChkN9, joined.
-/
import Derived.Test.YtnpcfohimlfbdaaGreatQProd9ToTailL
import Derived.Test.YtnpcfohimlfbdaaGreatQCat9
import Derived.Laws.OwnMore

set_option maxRecDepth 100000
set_option maxHeartbeats 6400000
set_option linter.unusedVariables false
set_option linter.unusedSimpArgs false
namespace Go.Proofs.YtnpcfohimlfbdaaGreat

def rowAt (zss : List (List Int)) (i : Nat) : List Int := zss.getD i []
/-- All rows are of one length. -/
def Wide (c : Nat) (m : List (List Int)) : Prop := ∀ r ∈ m, r.length = c
theorem Wide.at {c i : Nat} {m : List (List Int)} (h : Wide c m) (hi : i < m.length) : (rowAt m i).length = c := by
 have e : rowAt m i = m[i] := by simp [rowAt, hi]
 rw [e]
 exact h _ (List.getElem_mem hi)
theorem rowsL_length {r c : Nat} {zs : List Int} : (rowsL r c zs).length = r := by simp [rowsL]
open Go.RowKit

/-- Blocks of other types than T are as they were. -/
def Ty (T : TypeId) (w w' : World) : Prop := w.heap.size ≤ w'.heap.size ∧ ∀ (b : Nat) (L : Array Value) (T' : TypeId) (fr : Nat × Nat), w.heap[b]? = some (.cells L T' fr) → T' ≠ T → w'.heap[b]? = some (.cells L T' fr)
theorem Ty.trans {T : TypeId} {a b c : World} (h : Ty T a b) (h' : Ty T b c) : Ty T a c := ⟨Nat.le_trans h.1 h'.1, fun g L T' fr e hne => h'.2 g L T' fr (h.2 g L T' fr e hne) hne⟩
theorem Ty.set {T : TypeId} {w : World} {g i : Nat} {L : List Value} {u : Value} (d : Cel w g T L) : Ty T w (w.setCell ⟨g, i, none⟩ u) := by
 refine ⟨by simp, fun b L' T' fr e hne => ?_⟩
 have hb : b ≠ g := fun q => by
  subst q
  have := e.symm.trans (show w.heap[b]? = _ from d)
  simp at this
  exact hne this.2.1
 exact (Below.heap_setCell w _ u b (fun q => hb (by simpa using q))).trans e
theorem Ty.grown {T : TypeId} {w w' : World} {B size n : Nat} {v : Value} {xs : List Value} (h : w.ownsRow B T size v n xs) (hg : w.grownBy w' v.ownBlock) : Ty T w w' := by
 refine ⟨hg.size, fun b L' T' fr e hne => (hg.block b (Array.getElem?_eq_some_iff.1 e).1 (fun q => ?_)).trans e⟩
 obtain ⟨_, ⟨q1, _⟩ | ⟨g, cap, cur, q1, _, q3, _⟩⟩ := h
 ·rw [q1] at q; cases q
 ·rw [q1] at q
  simp only [Value.ownBlock, Option.some.injEq] at q
  subst q
  have := e.symm.trans q3
  simp at this
  exact hne this.2.1
theorem Zm.ty {T : TypeId} {B k : Nat} {w w' : World} {v : Value} {z : Int} (h : Zm B w v z k) (ht : Ty T w w') (hT : 51 ≠ T) : Zm B w' v z k := by
 obtain ⟨n1, zs, a, c, e, hm, rest⟩ := h
 refine ⟨n1, zs, a, c, e, ?_, rest⟩
 obtain ⟨hw, h | ⟨g, r, cap, h1, h2, h3, h4, h5, h6⟩⟩ := hm
 ·exact ⟨hw, .inl h⟩
 ·exact ⟨hw, .inr ⟨g, r, cap, h1, h2, h3, h4, h5, ht.2 g _ _ _ h6 hT⟩⟩
/-- The pairs stand for these integers, each in least form with memory of its own. -/
def Zms (w : World) (ps : List (Value × Value)) (zs : List Int) (k : Nat) : Prop := ps.length = zs.length ∧ ∀ (j : Nat) (p : Value × Value) (z : Int), ps[j]? = some p → zs[j]? = some z → Zm 0 w (.agg #[p.1, p.2]) z k
theorem Zms.ty {T : TypeId} {w w' : World} {ps : List (Value × Value)} {zs : List Int} {k : Nat} (h : Zms w ps zs k) (ht : Ty T w w') (hT : 51 ≠ T) : Zms w' ps zs k := ⟨h.1, fun j p z hp hz => (h.2 j p z hp hz).ty ht hT⟩
theorem Zms.now {w w' : World} {ps : List (Value × Value)} {zs : List Int} {k : Nat} (h : Zms w ps zs k) (hb : Below w.heap.size w w') : Zms w' ps zs k := ⟨h.1, fun j p z hp hz => (h.2 j p z hp hz).now hb⟩
theorem Zms.zcs {w : World} {ps : List (Value × Value)} {zs : List Int} {k : Nat} (h : Zms w ps zs k) : Zcs w ps zs k := ⟨h.1, fun j p z hp hz => (h.2 j p z hp hz).zc⟩
/-- An array that a loop fills with integers of their own. -/
def FilM (wx : World) (g n i : Nat) (F : Nat → Int) (k : Nat) : Prop := ∃ ps, Arr wx g ps ∧ ps.length = n ∧ ∀ (j : Nat) (p : Value × Value), j < i → ps[j]? = some p → Zm 0 wx (.agg #[p.1, p.2]) (F j) k
theorem FilM.start {w : World} {g n : Nat} (h : Arr w g (List.replicate n zpair)) (F : Nat → Int) (k : Nat) : FilM w g n 0 F k := ⟨_, h, by simp, fun j p hj => by omega⟩
theorem FilM.step {w w' : World} {g n i : Nat} {F : Nat → Int} {k : Nat} (h : FilM w g n i F k) (hb : Below w.heap.size w w') : FilM w' g n i F k := by
 obtain ⟨ps, h1, h2, h3⟩ := h
 exact ⟨ps, h1.step hb, h2, fun j p hj hp => (h3 j p hj hp).now hb⟩
theorem FilM.put {w : World} {g n i : Nat} {F : Nat → Int} {k : Nat} {x y : Value} (h : FilM w g n i F k) (hi : i < n) (hz : Zm 0 w (.agg #[x, y]) (F i) k) : FilM ((w.setCell ⟨g, i * 2, none⟩ x).setCell ⟨g, i * 2 + 1, none⟩ y) g n (i + 1) F k := by
 obtain ⟨ps, h1, h2, h3⟩ := h
 have ht : Ty 29 w ((w.setCell ⟨g, i * 2, none⟩ x).setCell ⟨g, i * 2 + 1, none⟩ y) := (Ty.set h1.1).trans (Ty.set (h1.1.set _ _))
 refine ⟨ps.set i (x, y), h1.put (by omega) hz.zi.isI, by simpa using h2, fun j p hj hp => ?_⟩
 by_cases q : j = i
 ·subst q
  rw [List.getElem?_set_self (by omega), Option.some.injEq] at hp
  subst hp
  exact hz.ty ht (by decide)
 ·rw [List.getElem?_set_ne (by omega)] at hp
  exact (h3 j p (by omega) hp).ty ht (by decide)
theorem FilM.cells {w : World} {g n i j : Nat} {F : Nat → Int} {k : Nat} (h : FilM w g n i F k) (hj : j < n) : ∃ m a l c, w.cell? ⟨g, j * 2, none⟩ = some (.bool m) ∧ w.cell? ⟨g, j * 2 + 1, none⟩ = some (.slice a l c) ∧ w.frozen? ⟨g, j * 2, none⟩ = false ∧ w.frozen? ⟨g, j * 2 + 1, none⟩ = false := by
 obtain ⟨ps, h1, h2, h3⟩ := h
 have hp : ps[j]? = some (ps[j]'(by omega)) := List.getElem?_eq_getElem (by omega)
 obtain ⟨m, a, l, c, e⟩ := h1.2 _ (List.getElem_mem (l := ps) (n := j) (by omega))
 have q := h1.at hp
 rw [e] at q
 exact ⟨m, a, l, c, q.1, q.2, h1.1.fz _, h1.1.fz _⟩

def rowv (c g : Nat) : Value := .slice (some ⟨g, 0, none⟩) c c
/-- Each once. -/
def Ones (gs : List Nat) : Prop := ∀ (i j g : Nat), gs[i]? = some g → gs[j]? = some g → i = j
/-- The list lv of rows, arrays gs of c integers each, in memory from block B on. -/
def Sht (B : Nat) (w : World) (lv : Value) (c : Nat) (gs : List Nat) (m : List (List Int)) (k : Nat) : Prop :=
 w.ownsRow B 22 1 lv gs.length (gs.map (rowv c)) ∧ Ones gs ∧ gs.length = m.length ∧ (∀ g ∈ gs, B ≤ g) ∧ Wide c m ∧
  ∀ (j g : Nat), gs[j]? = some g → ∃ ps, Arr w g ps ∧ Zcs w ps (rowAt m j) k
theorem Sht.form {B c k : Nat} {w : World} {lv : Value} {gs : List Nat} {m : List (List Int)} (h : Sht B w lv c gs m k) : ∃ a cap, lv = .slice a m.length cap ∧ m.length ≤ cap ∧ (0 < m.length → ∃ L, a = some ⟨L, 0, none⟩ ∧ B ≤ L ∧ L < w.heap.size) := by
 obtain ⟨⟨q1, ⟨q2, q3⟩ | ⟨g, cap, cur, q2, q3, q4, q5, q6⟩⟩, h2, h3, h4, h5, h6⟩ := h
 ·exact ⟨none, 0, by rw [q2, ← h3, q3], by omega, fun q => by omega⟩
 ·exact ⟨_, cap, by rw [q2, ← h3], by omega, fun _ => ⟨g, rfl, q3, (Array.getElem?_eq_some_iff.1 q4).1⟩⟩
/-- Where the row's value lies. -/
theorem Sht.line {B c k L cap : Nat} {w : World} {gs : List Nat} {m : List (List Int)} (h : Sht B w (.slice (some ⟨L, 0, none⟩) m.length cap) c gs m k) {i g : Nat} (hg : gs[i]? = some g) : w.cell? ⟨L, i, none⟩ = some (rowv c g) ∧ w.frozen? ⟨L, i, none⟩ = false := by
 obtain ⟨h1, h2, h3, h4, h5, h6⟩ := h
 rw [← h3] at h1
 have hi : i < gs.length := (List.getElem?_eq_some_iff.1 hg).1
 refine ⟨?_, h1.frozenAt i⟩
 rw [h1.cellAt i (by omega)]
 simp [hg]
abbrev putp (w : World) (g t : Nat) (x y : Value) : World := (w.setCell ⟨g, t * 2, none⟩ x).setCell ⟨g, t * 2 + 1, none⟩ y


theorem isShape_raw {w : World} {r c : Int} : Calls Tryz.prog 51 #[.int .i64 r, .int .i64 c] w fun e w' => e = .returned (.bool (decide (0 ≤ r ∧ 0 ≤ c ∧ r ≤ 64 ∧ c ≤ 64))) ∧ w' = w := by
 by_cases h1 : 0 ≤ min r c
 ·by_cases h2 : max r c ≤ 64
  ·have e : decide (0 ≤ r ∧ 0 ≤ c ∧ r ≤ 64 ∧ c ≤ 64) = true := by rw [decide_eq_true_eq]; omega
   rw [e]
   clear e
   go_enter Tryz.func51, Tryz.ntmps51
   go_wp2
   go_ret
   exact ⟨rfl, rfl⟩
  ·have e : decide (0 ≤ r ∧ 0 ≤ c ∧ r ≤ 64 ∧ c ≤ 64) = false := by rw [decide_eq_false_iff_not]; omega
   rw [e]
   clear e
   go_enter Tryz.func51, Tryz.ntmps51
   go_wp2
   go_ret
   exact ⟨rfl, rfl⟩
 ·have e : decide (0 ≤ r ∧ 0 ≤ c ∧ r ≤ 64 ∧ c ≤ 64) = false := by rw [decide_eq_false_iff_not]; omega
  rw [e]
  clear e
  go_enter Tryz.func51, Tryz.ntmps51
  go_wp2
  go_ret
  exact ⟨rfl, rfl⟩
theorem check_no {w : World} {r c : Int} {a : Option Addr} {l cap : Nat} (h : ¬ Snd r c l) : Calls Tryz.prog 26 #[.agg #[.int .i64 r, .int .i64 c, .slice a l cap]] w fun e w' => e = .returned (.int .i64 1) ∧ Below w.heap.size w w' := by
 obtain ⟨W0, hW⟩ : ∃ W0, w.alloc (.cells #[.int .i64 r, .int .i64 c, .slice a l cap] 24) = W0 := ⟨_, rfl⟩
 obtain ⟨b0, sz0⟩ := alo1 w (.cells #[.int .i64 r, .int .i64 c, .slice a l cap] 24)
 rw [hW] at b0 sz0
 have P1 : Hid (Cel W0 w.heap.size 24 [.int .i64 r, .int .i64 c, .slice a l cap]) := by unfold Hid; rw [← hW]; exact Cel.new w _ _
 have x0 := P1.out.at (i := 0) rfl
 have x1 := P1.out.at (i := 1) rfl
 have x2 := P1.out.at (i := 2) rfl
 rw [← hW] at x0 x1 x2
 have HS := hid (isShape_raw (w := W0) (r := r) (c := c))
 have G0 := hid b0
 have EW := hid hW
 clear b0 sz0 hW P1
 by_cases hs : 0 ≤ r ∧ 0 ≤ c ∧ r ≤ 64 ∧ c ≤ 64
 ·have e : decide (0 ≤ r ∧ 0 ≤ c ∧ r ≤ 64 ∧ c ≤ 64) = true := decide_eq_true hs
  rw [e] at HS
  have hm : 0 ≤ r * c ∧ r * c ≤ 64 * 64 := ⟨Int.mul_nonneg hs.1 hs.2.1, Int.mul_le_mul hs.2.2.1 hs.2.2.2 hs.2.1 (by omega)⟩
  have hw : IntKind.i64.wrap (r * c) = r * c := by rw [wrap_is] <;> omega
  obtain ⟨q, hq⟩ : ∃ q, r * c = q := ⟨_, rfl⟩
  have hne : ¬ ((l : Int) = q) := fun h2 => h ⟨hs.1, hs.2.2.1, hs.2.1, hs.2.2.2, h2.trans hq.symm⟩
  replace hw : IntKind.i64.wrap (r * c) = q := hw.trans hq
  have hw2 := hw
  rw [IntKind.wrap_i64] at hw2
  have q0 : ((l : Int) != q) = true := by simpa using hne
  clear h hs e hm hq hne
  go_enter Tryz.func26, Tryz.ntmps26
  go_wp2_with fail
  rw [EW.out]
  refine HS.out.mono ?_
  rintro e w1 ⟨rfl, rfl⟩
  rw [EW.out] at x0 x1 x2
  go_wp2
  go_ret
  exact ⟨rfl, G0.out⟩
 ·have e : decide (0 ≤ r ∧ 0 ≤ c ∧ r ≤ 64 ∧ c ≤ 64) = false := decide_eq_false hs
  rw [e] at HS
  clear h hs e
  go_enter Tryz.func26, Tryz.ntmps26
  go_wp2_with fail
  rw [EW.out]
  refine HS.out.mono ?_
  rintro e w1 ⟨rfl, rfl⟩
  go_wp2
  go_ret
  exact ⟨rfl, G0.out⟩
end Go.Proofs.YtnpcfohimlfbdaaGreat
