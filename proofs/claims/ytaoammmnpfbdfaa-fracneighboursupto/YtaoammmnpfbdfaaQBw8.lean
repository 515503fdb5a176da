/-
  Bw8: slices.Backward over a list of integers: what its iterator tells.
-/
import Derived.Test.YtaoammmnpfbdfaaQChain8ToIsChain8
import Derived.RangeFuncNested
import Derived.RangeFuncBound
import Derived.RangeFuncCalls
import Derived.RangeFuncLeaves
import Derived.RangeFuncBox
import Derived.Shelf.Abstract
import Derived.Shelf.RegionOpen
import Derived.WalkKit
import Derived.OwnWalkIn
import Derived.TacticsInMore
import Derived.LoopNIn
import Derived.LoopIn
namespace Go.Proofs.Ytaoammmnpfbdfaa
open Go.RowKit Go.Shelf
set_option linter.unusedVariables false
attribute [local go_sem] Oper.semAt_some

/-- What has come when k rounds are over. -/
def upto8 {α : Type} (f : Nat → α) (k : Nat) : List α := (List.range k).map f
theorem upto8_succ {α : Type} (f : Nat → α) (k : Nat) : upto8 f (k + 1) = upto8 f k ++ [f k] := by simp [upto8, List.range_succ]
theorem upto8_length {α : Type} (f : Nat → α) (k : Nat) : (upto8 f k).length = k := by simp [upto8]
abbrev bEnc (cs : Nat → Value × Value) {len : Nat} (x : Fin len) : Array Value := #[.int .i64 (x.val : Int), .agg #[(cs x.val).1, (cs x.val).2]]
/-- The k-th that comes: from the end. -/
def bAt {len : Nat} (hp : 0 < len) (k : Nat) : Fin len := ⟨len - 1 - k, by omega⟩
def bIdx (len k : Nat) : Value := if k = len then .int .i64 (-1) else .int .i64 ((len - 1 - k : Nat) : Int)
/-- What a round keeps: what lay below N, and the block of the list's value. -/
def KpU (N Bs : Nat) (W W' : World) : Prop := Below N W W' ∧ W'.heap[Bs]? = W.heap[Bs]?
theorem KpU.trans {N Bs : Nat} {A B C : World} (h : KpU N Bs A B) (k : KpU N Bs B C) : KpU N Bs A C := ⟨h.1.trans k.1, k.2.trans h.2⟩
theorem KpU.refl (N Bs : Nat) (W : World) : KpU N Bs W W := ⟨Below.refl _ _, rfl⟩
theorem KpU.box {N Bs : Nat} {A B : World} (h : KpU N Bs A B) {v : Value} (hc : A.cell? ⟨Bs, 0, none⟩ = some v) : B.cell? ⟨Bs, 0, none⟩ = some v := (World.cell?_of_block h.2).trans hc
theorem KpU.put {N Bs : Nat} {w : World} (hN : N ≤ w.heap.size) (hB : Bs < w.heap.size) (W : World) (l : Nat) (o o' : Obj) (hl : w.heap.size ≤ l) (h : W.heap[l]? = some o) (h1 : o.isCells = false) (h2 : o.isWalk = false) : KpU N Bs W (W.putObj l o') :=
  ⟨belowK_b hN W l o o' hl h h1 h2, (belowK_b (n₀ := w.heap.size) (Nat.le_refl _) W l o o' hl h h1 h2).block Bs hB⟩
set_option maxRecDepth 100000 in
set_option maxHeartbeats 2000000 in
theorem back1_in (l Bs n₀ b off len cap n : Nat) (hn : 1 ≤ n) (cs : Nat → Value × Value) (hp : 0 < len) (hlen : len ≤ 1048576) (hb : b < n₀) (J Jx : List (Fin len) → World → Prop)
    (hY : ∀ pre x W, J pre W → pre.length < len → YieldAt Fence.wide (n - 1) Try.prog l (bEnc cs x) W fun e W' =>
      (e = .returned (.bool true) ∧ J (pre ++ [x]) W' ∧ KpU n₀ Bs W W') ∨ (e = .returned (.bool false) ∧ Jx (pre ++ [x]) W'))
    (W : World) (hBs : W.cell? ⟨Bs, 0, none⟩ = some (.slice (some ⟨b, off, none⟩) len cap)) (hc : ∀ j, j < len → W.cell? ⟨b, off + j * 2, none⟩ = some (cs j).1 ∧ W.cell? ⟨b, off + j * 2 + 1, none⟩ = some (cs j).2) (h0 : J [] W) :
    CallsIn Fence.wide n Try.prog 71 #[.func (.yield l) #[] #[], .pointer (some ⟨Bs, 0, none⟩)] W fun e W' => (∃ v, e = .returned v) ∧
      ((∃ ys, ys = upto8 (bAt hp) len ∧ J ys W') ∨ (∃ pre, (∃ k, k ≤ len ∧ pre = upto8 (bAt hp) k) ∧ Jx pre W')) := by
  refine callsIn_of_wp Try.func71 rfl trivial ?_ rfl
  simp only [Try.ntmps71, List.size_toArray, List.length_cons, List.length_nil, Nat.reduceAdd, Nat.reduceSub, Array.replicate_succ, Array.replicate_zero, List.push_toArray, List.append_toArray, List.nil_append, List.cons_append]
  gi_wp2
  gi_loopw [3] (fun i wr => ∃ k : Nat, k ≤ len ∧ i = bIdx len k ∧ J (upto8 (bAt hp) k) wr ∧ KpU n₀ Bs W wr)
    (fun i _ => ((intOf i) + 1).toNat)
  case atStart =>
    refine ⟨0, Nat.zero_le _, ?_, h0, KpU.refl _ _ _⟩
    unfold bIdx
    by_cases e : len = 0
    · subst e; simp
    · rw [if_neg (by omega)]
      congr 1
      omega
  case round =>
    obtain ⟨k, hk, rfl, hJs, hnx⟩ := hrel
    have hBs' := hnx.box hBs
    by_cases hlt : k < len
    · obtain ⟨j, hj⟩ : ∃ j, len - 1 - k = j := ⟨_, rfl⟩
      have hjl : j < len := by omega
      have c0 := (hnx.1.cell (p := ⟨b, off + j * 2, none⟩) hb).trans (hc j hjl).1
      have c1 := (hnx.1.cell (p := ⟨b, off + j * 2 + 1, none⟩) hb).trans (hc j hjl).2
      obtain ⟨fn, tmps, assign, body, hy, hR⟩ := hY _ (bAt hp k) wr hJs (by rw [upto8_length]; exact hlt)
      have ei : bIdx len k = .int .i64 (j : Int) := by unfold bIdx; rw [if_neg (by omega), hj]
      have en : (Value.int .i64 ((j : Int) - 1)) = bIdx len (k + 1) := by
        unfold bIdx
        by_cases q : k + 1 = len
        · rw [if_pos q]; congr 1; omega
        · rw [if_neg q]; congr 1; omega
      dsimp only [bEnc, bAt] at hy
      rw [hj] at hy
      rw [ei]
      have EN := hid en
      have hjw : IntKind.i64.wrap ((j : Int) - 1) = (j : Int) - 1 := wrap_is (by omega) (by omega)
      clear en ei
      gi_wp2
      refine hR.mono ?_
      rintro e W3 (⟨rfl, hJ3, hk3⟩ | ⟨rfl, hJx3⟩)
      · gi_wp2
        go_roundw
        case rel => exact ⟨k + 1, by omega, EN.out, by rw [upto8_succ]; exact hJ3, hnx.trans hk3⟩
        case measure => simp [intOf]
      · gi_wp2
        refine bodyPost_ret (results_none rfl _ _ _) rfl ?_
        exact ⟨⟨_, rfl⟩, .inr ⟨_, ⟨k + 1, by omega, (upto8_succ _ _).symm⟩, hJx3⟩⟩
    · obtain rfl : k = len := by omega
      rw [show bIdx k k = .int .i64 (-1) from if_pos rfl]
      gi_wp2
      go_end0
      exact ⟨⟨_, rfl⟩, .inl ⟨_, rfl, hJs⟩⟩
set_option maxHeartbeats 1000000 in
theorem back_in (n : Nat) (a : Option Addr) (len cap : Nat) (w : World) :
    CallsIn Fence.wide n Try.prog 51 #[.slice a len cap] w fun e w' => e = .returned (.func (.func 71) #[] #[.pointer (some ⟨w.heap.size, 0, none⟩)]) ∧ w' = w.alloc (.cells #[.slice a len cap] 47) := by
  refine callsIn_of_wp Try.func51 rfl trivial ?_ rfl
  simp only [Try.ntmps51, List.size_toArray, List.length_cons, List.length_nil, Nat.reduceAdd, Nat.reduceSub, Array.replicate_succ, Array.replicate_zero, List.push_toArray, List.append_toArray, List.nil_append, List.cons_append]
  gi_wp2
  go_ret
  exact ⟨rfl, rfl⟩
theorem back_stops (n Bs n₀ b off len cap : Nat) (hn : 1 ≤ n) (cs : Nat → Value × Value) (hp : 0 < len) (hlen : len ≤ 1048576) (hb : b < n₀) (w : World) (hn₀ : n₀ ≤ w.heap.size) (hBl : Bs < w.heap.size)
    (hBs : w.cell? ⟨Bs, 0, none⟩ = some (.slice (some ⟨b, off, none⟩) len cap)) (hc : ∀ j, j < len → w.cell? ⟨b, off + j * 2, none⟩ = some (cs j).1 ∧ w.cell? ⟨b, off + j * 2 + 1, none⟩ = some (cs j).2) :
    SeqStopsK Fence.wide n Try.prog 71 #[.pointer (some ⟨Bs, 0, none⟩)] (bEnc cs (len := len)) (KpU n₀ Bs) (fun ys => ys = upto8 (bAt hp) len) (fun pre => True) len w := fun l J Jx W hW _ _ hY h0 => by
  have k1 := (hW.cell (p := ⟨Bs, 0, none⟩) hBl).trans hBs
  have k2 : ∀ j, j < len → W.cell? ⟨b, off + j * 2, none⟩ = some (cs j).1 ∧ W.cell? ⟨b, off + j * 2 + 1, none⟩ = some (cs j).2 := fun j hj =>
    ⟨(hW.cell (p := ⟨b, off + j * 2, none⟩) (Nat.lt_of_lt_of_le hb hn₀)).trans (hc j hj).1, (hW.cell (p := ⟨b, off + j * 2 + 1, none⟩) (Nat.lt_of_lt_of_le hb hn₀)).trans (hc j hj).2⟩
  refine (back1_in l Bs n₀ b off len cap n hn cs hp hlen hb J Jx hY W k1 k2 h0).mono ?_
  rintro e W' ⟨he, ⟨ys, rfl, hj⟩ | ⟨pre, _, hj⟩⟩
  · exact ⟨he, .inl ⟨_, rfl, hj⟩⟩
  · exact ⟨he, .inr ⟨_, trivial, hj⟩⟩
end Go.Proofs.Ytaoammmnpfbdfaa
