/-
  QGcd6ToRound8: Gcd6, Ext6, Lm6, CrtPure, TailA, Crt6, CrtLPure, Fit8, Chain8, IsChain8, Bw8, TailX, Round8, joined.
-/
import Derived.Test.YtakkmpkkoecnhaaQUnit9ToMWord
import Derived.Test.YtakkmpkkoecnhaaQGcdAllToExtPure
import Derived.Deep.LoopGhost
import Derived.Test.YtakkmpkkoecnhaaQFil9ToTail
import Derived.Test.YtakkmpkkoecnhaaQAlikeToOpenV8
import Derived.Test.YtakkmpkkoecnhaaQZOnesToZCmp
import Derived.Test.YtakkmpkkoecnhaaQExact0ToZlaw0
import Derived.Test.YtakkmpkkoecnhaaQZedToOnes
import Derived.RangeFuncNested
import Derived.RangeFuncBound
import Derived.RangeFuncCalls
import Derived.RangeFuncLeaves
import Derived.RangeFuncBox
import Derived.Shelf.Abstract
import Derived.Shelf.RegionOpen
import Derived.WalkKit
import Derived.OwnWalkIn
import Derived.TacticsInMore
import Derived.LoopNIn
import Derived.LoopIn

/- Gcd6 -/
namespace Go.Proofs.Ytakkmpkkoecnhaa
open Go.RowKit
set_option linter.unusedVariables false

/-- The least common multiple. -/
def lcmv (A B : Int) : Int := ((A.tdiv (Int.gcd A B : Int) * B).natAbs : Int)
end Go.Proofs.Ytakkmpkkoecnhaa

/- Ext6 -/
namespace Go.Proofs.Ytakkmpkkoecnhaa
open Go.RowKit
set_option linter.unusedVariables false

end Go.Proofs.Ytakkmpkkoecnhaa

/- Lm6 -/
namespace Go.Proofs.Ytakkmpkkoecnhaa
open Go.RowKit
set_option linter.unusedVariables false

end Go.Proofs.Ytakkmpkkoecnhaa

/- CrtPure -/
namespace Go.Proofs.Ytakkmpkkoecnhaa
open Go.RowKit
set_option linter.unusedVariables false

/-- What Crt answers. -/
structure CrtV (a b c d r m : Int) : Prop where
  em : m = lcmv b d
  lo : 0 ≤ r
  hi : r < m
  d1 : b ∣ r - a
  d2 : d ∣ r - c
end Go.Proofs.Ytakkmpkkoecnhaa

/- TailA -/
namespace Go.Proofs.Ytakkmpkkoecnhaa
open Go.RowKit
set_option linter.unusedVariables false

section
variable {P : Program} {ops : Array Oper} {Q : Exit → Act → World → Prop} {md : Region.Mode} {S : World → Prop} {n : Nat}

end
end Go.Proofs.Ytakkmpkkoecnhaa

/- Crt6 -/
namespace Go.Proofs.Ytakkmpkkoecnhaa
open Go.RowKit
set_option linter.unusedVariables false

end Go.Proofs.Ytakkmpkkoecnhaa

/- CrtLPure -/
namespace Go.Proofs.Ytakkmpkkoecnhaa
open Go.RowKit
set_option linter.unusedVariables false

/-- The least common multiple of all. -/
def lcmL (Ms : List Int) : Int := Ms.foldl lcmv 1
theorem lcmL_next {Ms : List Int} {i : Nat} (h : i < Ms.length) : lcmL (Ms.take (i + 1)) = lcmv (lcmL (Ms.take i)) Ms[i] := by
  unfold lcmL
  rw [List.take_succ_eq_append_getElem h, List.foldl_append]
  rfl
theorem lcmv_dvd (b d : Int) : b ∣ lcmv b d ∧ d ∣ lcmv b d := by
  unfold lcmv
  refine ⟨Int.dvd_natAbs.2 ?_, Int.dvd_natAbs.2 ⟨b.tdiv (Int.gcd b d : Int), Int.mul_comm _ _⟩⟩
  obtain ⟨u, hu⟩ : (Int.gcd b d : Int) ∣ b := Int.gcd_dvd_left ..
  obtain ⟨v, hv⟩ : (Int.gcd b d : Int) ∣ d := Int.gcd_dvd_right ..
  generalize (Int.gcd b d : Int) = g at *
  by_cases h : g = 0
  · subst h; subst hu; simp
  · rw [hu, Int.mul_tdiv_cancel_left _ h, hv]
    exact ⟨v, by grind⟩
theorem lcmv_pos {b d : Int} (hb : b ≠ 0) (hd : d ≠ 0) : 0 < lcmv b d := by
  have h0 : 0 ≤ lcmv b d := by unfold lcmv; omega
  have hn : lcmv b d ≠ 0 := fun e => by
    unfold lcmv at e
    have e2 : b.tdiv (Int.gcd b d : Int) * d = 0 := by omega
    rcases Int.mul_eq_zero.1 e2 with q | q
    · obtain ⟨u, hu⟩ : (Int.gcd b d : Int) ∣ b := Int.gcd_dvd_left ..
      have hg : (Int.gcd b d : Int) ≠ 0 := by
        have := Int.gcd_pos_of_ne_zero_right b hd
        omega
      generalize (Int.gcd b d : Int) = g at *
      rw [hu, Int.mul_tdiv_cancel_left _ hg] at q
      rw [q] at hu
      simp at hu
      exact hb hu
    · exact hd q
  omega
structure CrtL (Rs Ms : List Int) (r m : Int) : Prop where
  em : m = lcmL Ms
  pos : 0 < m
  lo : 0 ≤ r
  hi : r < m
  dm : ∀ j (h : j < Ms.length), Ms[j] ∣ m
  dr : ∀ j (h : j < Ms.length) (h' : j < Rs.length), Ms[j] ∣ r - Rs[j]
theorem CrtL.next {Rs Ms : List Int} {r m r' m' : Int} {i : Nat} (h : CrtL (Rs.take i) (Ms.take i) r m) (hr : i < Rs.length) (hm : i < Ms.length) (h0 : Ms[i] ≠ 0) (hv : CrtV r m Rs[i] Ms[i] r' m') : CrtL (Rs.take (i + 1)) (Ms.take (i + 1)) r' m' := by
  obtain ⟨e1, e2, e3, e4, e5, e6⟩ := h
  have hd := lcmv_dvd m Ms[i]
  rw [← hv.em] at hd
  refine ⟨by rw [lcmL_next hm, ← e1, hv.em], ?_, hv.lo, hv.hi, fun j hj => ?_, fun j hj hj' => ?_⟩
  · rw [hv.em]; exact lcmv_pos (by omega) h0
  · rw [List.getElem_take]
    simp at hj
    by_cases q : j < i
    · have := e5 j (by simp; omega)
      rw [List.getElem_take] at this
      exact Int.dvd_trans this hd.1
    · obtain rfl : j = i := by omega
      exact hd.2
  · rw [List.getElem_take, List.getElem_take]
    simp at hj hj'
    by_cases q : j < i
    · have h1 := e6 j (by simp; omega) (by simp; omega)
      have h2 := e5 j (by simp; omega)
      rw [List.getElem_take] at h1 h2
      rw [List.getElem_take] at h1
      have h3 := Int.dvd_trans h2 hv.d1
      have := Int.dvd_add h3 h1
      rwa [show r' - r + (r - Rs[j]) = r' - Rs[j] by omega] at this
    · obtain rfl : j = i := by omega
      exact hv.d2
/-- A list of integers below block B. -/
def ZlB (B : Nat) (w : World) (v : Value) (zs : List Int) (k : Nat) : Prop :=
  ∃ a c, v = .slice a zs.length c ∧ zs.length ≤ c ∧ zs.length ≤ 1048576 ∧ (zs = [] ∨ ∃ b off, a = some ⟨b, off, none⟩ ∧ b < B ∧ B ≤ w.heap.size ∧ ∀ j (h : j < zs.length), ∃ x y, w.cell? ⟨b, off + 2 * j, none⟩ = some x ∧ w.cell? ⟨b, off + 2 * j + 1, none⟩ = some y ∧ Zi w (.agg #[x, y]) zs[j] k)
theorem ZlB.now {B : Nat} {w w' : World} {v : Value} {zs : List Int} {k : Nat} (h : ZlB B w v zs k) (hb : Below w.heap.size w w') : ZlB B w' v zs k := by
  obtain ⟨a, c, h1, h2, h3, h4⟩ := h
  refine ⟨a, c, h1, h2, h3, ?_⟩
  rcases h4 with h4 | ⟨b, off, h5, h6, h6', h7⟩
  · exact .inl h4
  · refine .inr ⟨b, off, h5, h6, Nat.le_trans h6' hb.size, fun j hj => ?_⟩
    obtain ⟨x, y, q1, q2, q3⟩ := h7 j hj
    exact ⟨x, y, (hb.cell (p := ⟨b, off + 2 * j, none⟩) (Nat.lt_of_lt_of_le h6 h6')).trans q1, (hb.cell (p := ⟨b, off + 2 * j + 1, none⟩) (Nat.lt_of_lt_of_le h6 h6')).trans q2, q3.now hb⟩
theorem ZlB.box {B : Nat} {w : World} {v : Value} {zs : List Int} {k : Nat} (h : ZlB B w v zs k) {b' : Nat} {n : Bool} {a' : Option Addr} {l' c' : Nat} (d : Duo w b' (.bool n) (.slice a' l' c')) (hB : B ≤ b') (x y : Value) : ZlB B ((w.setCell ⟨b', 0, none⟩ x).setCell ⟨b', 1, none⟩ y) v zs k := by
  obtain ⟨a, c, h1, h2, h3, h4⟩ := h
  refine ⟨a, c, h1, h2, h3, ?_⟩
  rcases h4 with h4 | ⟨b, off, h5, h6, h6', h7⟩
  · exact .inl h4
  · refine .inr ⟨b, off, h5, h6, by simpa using h6', fun j hj => ?_⟩
    obtain ⟨x0, y0, q1, q2, q3⟩ := h7 j hj
    exact ⟨x0, y0, box_ne (by omega) (box_ne (by omega) q1), box_ne (by omega) (box_ne (by omega) q2), q3.wk (d.wk x y)⟩
theorem ZlB.at {B : Nat} {w : World} {b off l c : Nat} {zs : List Int} {k : Nat} (h : ZlB B w (.slice (some ⟨b, off, none⟩) l c) zs k) {i : Nat} (hi : i < zs.length) : ∃ n, ∃ xs : List Int, ∃ a c, w.cell? ⟨b, off + i * 2, none⟩ = some (.bool n) ∧ w.cell? ⟨b, off + i * 2 + 1, none⟩ = some (.slice a xs.length c) ∧ Zi w (.agg #[.bool n, .slice a xs.length c]) zs[i] k := by
  obtain ⟨a', c', h1, h2, h3, h4⟩ := h
  rcases h4 with h4 | ⟨b', off', h5, h6, h6', h7⟩
  · subst h4; simp at hi
  · simp only [Value.slice.injEq] at h1
    obtain ⟨rfl, -, -⟩ := h1
    simp only [Option.some.injEq, Addr.mk.injEq, and_true] at h5
    obtain ⟨rfl, rfl⟩ := h5
    obtain ⟨x, y, q1, q2, q3⟩ := h7 i hi
    obtain ⟨n, xs, a, c, rfl, rfl⟩ := q3.comp
    rw [Nat.mul_comm 2 i] at q1 q2
    exact ⟨n, xs, a, c, q1, q2, q3⟩
theorem ZlB.form {B : Nat} {w : World} {v : Value} {zs : List Int} {k : Nat} (h : ZlB B w v zs k) : ∃ a c, v = .slice a zs.length c ∧ zs.length ≤ c ∧ zs.length ≤ 1048576 ∧ (zs ≠ [] → ∃ b off, a = some ⟨b, off, none⟩ ∧ b < B) := by
  obtain ⟨a, c, h1, h2, h3, h4⟩ := h
  refine ⟨a, c, h1, h2, h3, fun hne => ?_⟩
  rcases h4 with h4 | ⟨b, off, h5, h6, _⟩
  · exact absurd h4 hne
  · exact ⟨b, off, h5, h6⟩
end Go.Proofs.Ytakkmpkkoecnhaa

/- Fit8 -/
namespace Go.Proofs.Ytakkmpkkoecnhaa
open Go.RowKit
set_option linter.unusedVariables false

end Go.Proofs.Ytakkmpkkoecnhaa

/- Chain8 -/
namespace Go.Proofs.Ytakkmpkkoecnhaa
open Go.RowKit
set_option linter.unusedVariables false

end Go.Proofs.Ytakkmpkkoecnhaa

/- IsChain8 -/
namespace Go.Proofs.Ytakkmpkkoecnhaa
open Go.RowKit
set_option linter.unusedVariables false

end Go.Proofs.Ytakkmpkkoecnhaa

/- Bw8 -/
namespace Go.Proofs.Ytakkmpkkoecnhaa
open Go.RowKit Go.Shelf
set_option linter.unusedVariables false
attribute [local go_sem] Oper.semAt_some

/-- What a round keeps: what lay below N, and the block of the list's value. -/
def KpU (N Bs : Nat) (W W' : World) : Prop := Below N W W' ∧ W'.heap[Bs]? = W.heap[Bs]?
theorem KpU.trans {N Bs : Nat} {A B C : World} (h : KpU N Bs A B) (k : KpU N Bs B C) : KpU N Bs A C := ⟨h.1.trans k.1, k.2.trans h.2⟩
theorem KpU.refl (N Bs : Nat) (W : World) : KpU N Bs W W := ⟨Below.refl _ _, rfl⟩
theorem KpU.box {N Bs : Nat} {A B : World} (h : KpU N Bs A B) {v : Value} (hc : A.cell? ⟨Bs, 0, none⟩ = some v) : B.cell? ⟨Bs, 0, none⟩ = some v := (World.cell?_of_block h.2).trans hc
theorem KpU.put {N Bs : Nat} {w : World} (hN : N ≤ w.heap.size) (hB : Bs < w.heap.size) (W : World) (l : Nat) (o o' : Obj) (hl : w.heap.size ≤ l) (h : W.heap[l]? = some o) (h1 : o.isCells = false) (h2 : o.isWalk = false) : KpU N Bs W (W.putObj l o') :=
  ⟨belowK_b hN W l o o' hl h h1 h2, (belowK_b (n₀ := w.heap.size) (Nat.le_refl _) W l o o' hl h h1 h2).block Bs hB⟩
end Go.Proofs.Ytakkmpkkoecnhaa

/- TailX -/
namespace Go.Proofs.Ytakkmpkkoecnhaa
open Go.RowKit
set_option linter.unusedVariables false

section
variable {P : Program} {ops : Array Oper} {Q : Exit → Act → World → Prop} {md : Region.Mode} {S : World → Prop} {X : List Nat}

end
end Go.Proofs.Ytakkmpkkoecnhaa

/- Round8 -/
namespace Go.Proofs.Ytakkmpkkoecnhaa
open Go.RowKit Go.Shelf
set_option linter.unusedVariables false

theorem rows_in {n : Nat} {P : Program} {row : String} {args : Array Value} {w : World} {R : Value → World → Prop} (l : Nat) (h : Rows P row args w R) : RowsIn (Fence.wide.inRound l) n P row args w R :=
  fun c cs _ => let ⟨v, w', r, s⟩ := h c cs; ⟨v, w', r, stepsIn_wide.2 s⟩
theorem op_round {P : Program} {l n : Nat} {o : Oper} {a : Act} {w : World} {K : Act → World → Prop} {Q : Exit → Act → World → Prop} (hno : ∀ c, o.op ≠ .defer c) (h : o.wp P a w K Q) : o.wpIn (Fence.wide.inRound l) n P a w K Q := by
  refine ⟨fun _ _ => trivial, ?_⟩
  rw [Fence.inRound_round, Oper.semAt_some l a.eval o hno]
  unfold Oper.wp at h
  generalize (execOp a.eval o).run P w = r at *
  cases r with
  | ok x w' =>
    cases x <;> simp only [Oper.upon, Oper.uponIn] at h ⊢
    all_goals first
      | exact h
      | exact ⟨fun e => (by cases e), CallsIn.inRound l (callsIn_wide.2 h)⟩
      | exact ⟨fun e => (by cases e), rows_in l h⟩
      | exact h.elim
  | halt x w' => cases x <;> simp only [Oper.upon, Oper.uponIn] at h ⊢ <;> first | exact h | exact h.elim
end Go.Proofs.Ytakkmpkkoecnhaa
