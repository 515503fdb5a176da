/-
  QCrtLPureToBw8: CrtLPure, Fit8, Chain8, IsChain8, Bw8, joined.
-/
import Derived.Test.YtbalcjjeakdjkaaQExtPureToCrt6
import Derived.Test.YtbalcjjeakdjkaaQAlikeToOpenV8
import Derived.Test.YtbalcjjeakdjkaaQZOnesToZCmp
import Derived.Test.YtbalcjjeakdjkaaQCells6ToZlaw0
import Derived.Deep.LoopGhost
import Derived.Test.YtbalcjjeakdjkaaQMulAllToOnes
import Derived.RangeFuncNested
import Derived.RangeFuncBound
import Derived.RangeFuncCalls
import Derived.RangeFuncLeaves
import Derived.RangeFuncBox
import Derived.Shelf.Abstract
import Derived.Shelf.RegionOpen
import Derived.WalkKit
import Derived.OwnWalkIn
import Derived.TacticsInMore
import Derived.LoopNIn
import Derived.LoopIn

/- CrtLPure -/
namespace Go.Proofs.Ytbalcjjeakdjkaa
open Go.RowKit
set_option linter.unusedVariables false

/-- The least common multiple of all. -/
def lcmL (Ms : List Int) : Int := Ms.foldl lcmv 1
theorem lcmL_next {Ms : List Int} {i : Nat} (h : i < Ms.length) : lcmL (Ms.take (i + 1)) = lcmv (lcmL (Ms.take i)) Ms[i] := by
  unfold lcmL
  rw [List.take_succ_eq_append_getElem h, List.foldl_append]
  rfl
theorem lcmv_dvd (b d : Int) : b ∣ lcmv b d ∧ d ∣ lcmv b d := by
  unfold lcmv
  refine ⟨Int.dvd_natAbs.2 ?_, Int.dvd_natAbs.2 ⟨b.tdiv (Int.gcd b d : Int), Int.mul_comm _ _⟩⟩
  obtain ⟨u, hu⟩ : (Int.gcd b d : Int) ∣ b := Int.gcd_dvd_left ..
  obtain ⟨v, hv⟩ : (Int.gcd b d : Int) ∣ d := Int.gcd_dvd_right ..
  generalize (Int.gcd b d : Int) = g at *
  by_cases h : g = 0
  · subst h; subst hu; simp
  · rw [hu, Int.mul_tdiv_cancel_left _ h, hv]
    exact ⟨v, by grind⟩
theorem lcmv_pos {b d : Int} (hb : b ≠ 0) (hd : d ≠ 0) : 0 < lcmv b d := by
  have h0 : 0 ≤ lcmv b d := by unfold lcmv; omega
  have hn : lcmv b d ≠ 0 := fun e => by
    unfold lcmv at e
    have e2 : b.tdiv (Int.gcd b d : Int) * d = 0 := by omega
    rcases Int.mul_eq_zero.1 e2 with q | q
    · obtain ⟨u, hu⟩ : (Int.gcd b d : Int) ∣ b := Int.gcd_dvd_left ..
      have hg : (Int.gcd b d : Int) ≠ 0 := by
        have := Int.gcd_pos_of_ne_zero_right b hd
        omega
      generalize (Int.gcd b d : Int) = g at *
      rw [hu, Int.mul_tdiv_cancel_left _ hg] at q
      rw [q] at hu
      simp at hu
      exact hb hu
    · exact hd q
  omega
structure CrtL (Rs Ms : List Int) (r m : Int) : Prop where
  em : m = lcmL Ms
  pos : 0 < m
  lo : 0 ≤ r
  hi : r < m
  dm : ∀ j (h : j < Ms.length), Ms[j] ∣ m
  dr : ∀ j (h : j < Ms.length) (h' : j < Rs.length), Ms[j] ∣ r - Rs[j]
theorem crtL_nil : CrtL [] [] 0 1 := ⟨rfl, by omega, by omega, by omega, fun j h => by simp at h, fun j h => by simp at h⟩
theorem CrtL.next {Rs Ms : List Int} {r m r' m' : Int} {i : Nat} (h : CrtL (Rs.take i) (Ms.take i) r m) (hr : i < Rs.length) (hm : i < Ms.length) (h0 : Ms[i] ≠ 0) (hv : CrtV r m Rs[i] Ms[i] r' m') : CrtL (Rs.take (i + 1)) (Ms.take (i + 1)) r' m' := by
  obtain ⟨e1, e2, e3, e4, e5, e6⟩ := h
  have hd := lcmv_dvd m Ms[i]
  rw [← hv.em] at hd
  refine ⟨by rw [lcmL_next hm, ← e1, hv.em], ?_, hv.lo, hv.hi, fun j hj => ?_, fun j hj hj' => ?_⟩
  · rw [hv.em]; exact lcmv_pos (by omega) h0
  · rw [List.getElem_take]
    simp at hj
    by_cases q : j < i
    · have := e5 j (by simp; omega)
      rw [List.getElem_take] at this
      exact Int.dvd_trans this hd.1
    · obtain rfl : j = i := by omega
      exact hd.2
  · rw [List.getElem_take, List.getElem_take]
    simp at hj hj'
    by_cases q : j < i
    · have h1 := e6 j (by simp; omega) (by simp; omega)
      have h2 := e5 j (by simp; omega)
      rw [List.getElem_take] at h1 h2
      rw [List.getElem_take] at h1
      have h3 := Int.dvd_trans h2 hv.d1
      have := Int.dvd_add h3 h1
      rwa [show r' - r + (r - Rs[j]) = r' - Rs[j] by omega] at this
    · obtain rfl : j = i := by omega
      exact hv.d2
/-- The first that does not go together with those ahead of it. -/
def CrtN (Rs Ms : List Int) : Prop := ∃ j, ∃ hr : j < Rs.length, ∃ hm : j < Ms.length, ∃ r m, CrtL (Rs.take j) (Ms.take j) r m ∧ ¬ (Int.gcd m Ms[j] : Int) ∣ Rs[j] - r

/-- A list of integers below block B. -/
def ZlB (B : Nat) (w : World) (v : Value) (zs : List Int) (k : Nat) : Prop :=
  ∃ a c, v = .slice a zs.length c ∧ zs.length ≤ c ∧ zs.length ≤ 1048576 ∧ (zs = [] ∨ ∃ b off, a = some ⟨b, off, none⟩ ∧ b < B ∧ B ≤ w.heap.size ∧ ∀ j (h : j < zs.length), ∃ x y, w.cell? ⟨b, off + 2 * j, none⟩ = some x ∧ w.cell? ⟨b, off + 2 * j + 1, none⟩ = some y ∧ Zi w (.agg #[x, y]) zs[j] k)
theorem Zl.zlb {w : World} {v : Value} {zs : List Int} {k : Nat} (h : Zl w v zs k) : ZlB w.heap.size w v zs k := by
  obtain ⟨a, c, h1, h2, h3, h4⟩ := h
  refine ⟨a, c, h1, h2, h3, ?_⟩
  rcases h4 with h4 | ⟨b, off, h5, h6, h7⟩
  · exact .inl h4
  · exact .inr ⟨b, off, h5, h6, Nat.le_refl _, h7⟩
theorem ZlB.now {B : Nat} {w w' : World} {v : Value} {zs : List Int} {k : Nat} (h : ZlB B w v zs k) (hb : Below w.heap.size w w') : ZlB B w' v zs k := by
  obtain ⟨a, c, h1, h2, h3, h4⟩ := h
  refine ⟨a, c, h1, h2, h3, ?_⟩
  rcases h4 with h4 | ⟨b, off, h5, h6, h6', h7⟩
  · exact .inl h4
  · refine .inr ⟨b, off, h5, h6, Nat.le_trans h6' hb.size, fun j hj => ?_⟩
    obtain ⟨x, y, q1, q2, q3⟩ := h7 j hj
    exact ⟨x, y, (hb.cell (p := ⟨b, off + 2 * j, none⟩) (Nat.lt_of_lt_of_le h6 h6')).trans q1, (hb.cell (p := ⟨b, off + 2 * j + 1, none⟩) (Nat.lt_of_lt_of_le h6 h6')).trans q2, q3.now hb⟩
theorem ZlB.box {B : Nat} {w : World} {v : Value} {zs : List Int} {k : Nat} (h : ZlB B w v zs k) {b' : Nat} {n : Bool} {a' : Option Addr} {l' c' : Nat} (d : Duo w b' (.bool n) (.slice a' l' c')) (hB : B ≤ b') (x y : Value) : ZlB B ((w.setCell ⟨b', 0, none⟩ x).setCell ⟨b', 1, none⟩ y) v zs k := by
  obtain ⟨a, c, h1, h2, h3, h4⟩ := h
  refine ⟨a, c, h1, h2, h3, ?_⟩
  rcases h4 with h4 | ⟨b, off, h5, h6, h6', h7⟩
  · exact .inl h4
  · refine .inr ⟨b, off, h5, h6, by simpa using h6', fun j hj => ?_⟩
    obtain ⟨x0, y0, q1, q2, q3⟩ := h7 j hj
    exact ⟨x0, y0, box_ne (by omega) (box_ne (by omega) q1), box_ne (by omega) (box_ne (by omega) q2), q3.wk (d.wk x y)⟩
theorem ZlB.at {B : Nat} {w : World} {b off l c : Nat} {zs : List Int} {k : Nat} (h : ZlB B w (.slice (some ⟨b, off, none⟩) l c) zs k) {i : Nat} (hi : i < zs.length) : ∃ n, ∃ xs : List Int, ∃ a c, w.cell? ⟨b, off + i * 2, none⟩ = some (.bool n) ∧ w.cell? ⟨b, off + i * 2 + 1, none⟩ = some (.slice a xs.length c) ∧ Zi w (.agg #[.bool n, .slice a xs.length c]) zs[i] k := by
  obtain ⟨a', c', h1, h2, h3, h4⟩ := h
  rcases h4 with h4 | ⟨b', off', h5, h6, h6', h7⟩
  · subst h4; simp at hi
  · simp only [Value.slice.injEq] at h1
    obtain ⟨rfl, -, -⟩ := h1
    simp only [Option.some.injEq, Addr.mk.injEq, and_true] at h5
    obtain ⟨rfl, rfl⟩ := h5
    obtain ⟨x, y, q1, q2, q3⟩ := h7 i hi
    obtain ⟨n, xs, a, c, rfl, rfl⟩ := q3.comp
    rw [Nat.mul_comm 2 i] at q1 q2
    exact ⟨n, xs, a, c, q1, q2, q3⟩
theorem ZlB.form {B : Nat} {w : World} {v : Value} {zs : List Int} {k : Nat} (h : ZlB B w v zs k) : ∃ a c, v = .slice a zs.length c ∧ zs.length ≤ c ∧ zs.length ≤ 1048576 ∧ (zs ≠ [] → ∃ b off, a = some ⟨b, off, none⟩ ∧ b < B) := by
  obtain ⟨a, c, h1, h2, h3, h4⟩ := h
  refine ⟨a, c, h1, h2, h3, fun hne => ?_⟩
  rcases h4 with h4 | ⟨b, off, h5, h6, _⟩
  · exact absurd h4 hne
  · exact ⟨b, off, h5, h6⟩
end Go.Proofs.Ytbalcjjeakdjkaa

/- Fit8 -/
namespace Go.Proofs.Ytbalcjjeakdjkaa
open Go.RowKit
set_option linter.unusedVariables false

/-- A list that stands for a fraction. -/
def Fit (zs : List Int) : Prop := 0 < zs.length ∧ ∀ j (h : j < zs.length), 1 ≤ j → 1 ≤ zs[j]
theorem wrapI8 {i : Nat} (h : i ≤ 1048576) : IntKind.i64.wrap ((i : Int) + 1) = ((i + 1 : Nat) : Int) := by rw [wrap_is] <;> omega
def FitH (w : World) (zs : List Int) (k n : Nat) (v : Value) (g : Nat) (s : Value) (wx : World) : Prop :=
  ∃ i : Nat, s = .int .i64 (i : Int) ∧ 1 ≤ i ∧ i ≤ n + 1 ∧ g = n - i ∧ (∀ j (h : j < zs.length), 1 ≤ j → j < i → 1 ≤ zs[j]) ∧ ZlB w.heap.size wx v zs k ∧ Below w.heap.size w wx
def Fitted (w : World) (zs : List Int) (e : Ending) (w' : World) : Prop := ∃ b : Bool, e = .returned (.bool b) ∧ (b = true ↔ Fit zs) ∧ Below w.heap.size w w'
end Go.Proofs.Ytbalcjjeakdjkaa

/- Chain8 -/
namespace Go.Proofs.Ytbalcjjeakdjkaa
open Go.RowKit
set_option linter.unusedVariables false

/-- All of them are at least 1. -/
def AllPos (zs : List Int) : Prop := ∀ j (h : j < zs.length), 1 ≤ zs[j]
def Indexed (w : World) (zs : List Int) (e : Ending) (w' : World) : Prop := ∃ r : Int, e = .returned (.int .i64 r) ∧ ((0 : Int) ≤ r ↔ ¬ AllPos zs) ∧ Below w.heap.size w w'
def IdxH (w : World) (zs : List Int) (k n : Nat) (v : Value) (g : Nat) (s : Value) (wx : World) : Prop :=
  ∃ i : Nat, s = .int .i64 (i : Int) ∧ i ≤ n ∧ g = n - i ∧ (∀ j (h : j < zs.length), j < i → 1 ≤ zs[j]) ∧ ZlB w.heap.size wx v zs k ∧ Below w.heap.size w wx
def Contained (w : World) (zs : List Int) (e : Ending) (w' : World) : Prop := ∃ b : Bool, e = .returned (.bool b) ∧ (b = true ↔ ¬ AllPos zs) ∧ Below w.heap.size w w'
end Go.Proofs.Ytbalcjjeakdjkaa

/- IsChain8 -/
namespace Go.Proofs.Ytbalcjjeakdjkaa
open Go.RowKit
set_option linter.unusedVariables false

theorem fit_drop {zs : List Int} : Fit zs ↔ 0 < zs.length ∧ AllPos (zs.drop 1) := by
  unfold Fit AllPos
  refine ⟨fun h => ⟨h.1, fun j hj => ?_⟩, fun h => ⟨h.1, fun j hj h1 => ?_⟩⟩
  · rw [List.getElem_drop]
    rw [List.length_drop] at hj
    exact h.2 (1 + j) (by omega) (by omega)
  · have := h.2 (j - 1) (by rw [List.length_drop]; omega)
    rw [List.getElem_drop] at this
    simpa [show 1 + (j - 1) = j by omega] using this
end Go.Proofs.Ytbalcjjeakdjkaa

/- Bw8 -/
namespace Go.Proofs.Ytbalcjjeakdjkaa
open Go.RowKit Go.Shelf
set_option linter.unusedVariables false
attribute [local go_sem] Oper.semAt_some

/-- What has come when k rounds are over. -/
def upto8 {α : Type} (f : Nat → α) (k : Nat) : List α := (List.range k).map f
theorem upto8_succ {α : Type} (f : Nat → α) (k : Nat) : upto8 f (k + 1) = upto8 f k ++ [f k] := by simp [upto8, List.range_succ]
theorem upto8_length {α : Type} (f : Nat → α) (k : Nat) : (upto8 f k).length = k := by simp [upto8]
abbrev bEnc (cs : Nat → Value × Value) {len : Nat} (x : Fin len) : Array Value := #[.int .i64 (x.val : Int), .agg #[(cs x.val).1, (cs x.val).2]]
/-- The k-th that comes: from the end. -/
def bAt {len : Nat} (hp : 0 < len) (k : Nat) : Fin len := ⟨len - 1 - k, by omega⟩
def bIdx (len k : Nat) : Value := if k = len then .int .i64 (-1) else .int .i64 ((len - 1 - k : Nat) : Int)
/-- What a round keeps: what lay below N, and the block of the list's value. -/
def KpU (N Bs : Nat) (W W' : World) : Prop := Below N W W' ∧ W'.heap[Bs]? = W.heap[Bs]?
theorem KpU.trans {N Bs : Nat} {A B C : World} (h : KpU N Bs A B) (k : KpU N Bs B C) : KpU N Bs A C := ⟨h.1.trans k.1, k.2.trans h.2⟩
theorem KpU.refl (N Bs : Nat) (W : World) : KpU N Bs W W := ⟨Below.refl _ _, rfl⟩
theorem KpU.box {N Bs : Nat} {A B : World} (h : KpU N Bs A B) {v : Value} (hc : A.cell? ⟨Bs, 0, none⟩ = some v) : B.cell? ⟨Bs, 0, none⟩ = some v := (World.cell?_of_block h.2).trans hc
theorem KpU.put {N Bs : Nat} {w : World} (hN : N ≤ w.heap.size) (hB : Bs < w.heap.size) (W : World) (l : Nat) (o o' : Obj) (hl : w.heap.size ≤ l) (h : W.heap[l]? = some o) (h1 : o.isCells = false) (h2 : o.isWalk = false) : KpU N Bs W (W.putObj l o') :=
  ⟨belowK_b hN W l o o' hl h h1 h2, (belowK_b (n₀ := w.heap.size) (Nat.le_refl _) W l o o' hl h h1 h2).block Bs hB⟩
end Go.Proofs.Ytbalcjjeakdjkaa
