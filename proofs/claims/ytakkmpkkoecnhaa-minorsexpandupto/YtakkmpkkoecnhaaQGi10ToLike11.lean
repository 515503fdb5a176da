/-
  QGi10ToLike11: Gi10, Up13, Like11, joined.
-/
import Derived.Test.YtakkmpkkoecnhaaQPickB9ToSd13
import Derived.Deep.AppendLies
import Derived.Test.YtakkmpkkoecnhaaQSr13
import Derived.Test.YtakkmpkkoecnhaaQUnit9ToMWord
import Derived.Test.YtakkmpkkoecnhaaQSh11ToChkN9
import Derived.Test.YtakkmpkkoecnhaaQFil9ToTail
import Derived.Test.YtakkmpkkoecnhaaQGcd6ToRound8

/- Gi10 -/
namespace Go.Proofs.Ytakkmpkkoecnhaa
open Go.RowKit
set_option linter.unusedVariables false

def wi10 (xs : List Int) : List Value := xs.map (Value.int .i64)
def RowI10 (w : World) (g : Nat) (L : List Value) : Prop := w.heap[g]? = some (.cells L.toArray 3 (0, 0))
theorem RowI10.lt {w : World} {g : Nat} {L : List Value} (h : RowI10 w g L) : g < w.heap.size := (Array.getElem?_eq_some_iff.1 h).1
theorem RowI10.now {w w' : World} {g : Nat} {L : List Value} (h : RowI10 w g L) (hb : Below w.heap.size w w') : RowI10 w' g L := (hb.block g h.lt).trans h
theorem RowI10.frozen {w : World} {g : Nat} {L : List Value} (h : RowI10 w g L) (i : Nat) : w.frozen? ⟨g, i, none⟩ = false := by
  unfold RowI10 at h
  simp [World.frozen?, h]
theorem RowI10.num {w : World} {g : Nat} {xs : List Int} {r : List Value} (h : RowI10 w g (wi10 xs ++ r)) {i : Nat} (hi : i < xs.length) : w.cell? ⟨g, i, none⟩ = some (.int .i64 xs[i]) := by
  unfold RowI10 at h
  have h1 : i < (wi10 xs ++ r).length := by simp [wi10]; omega
  have h2 : (wi10 xs ++ r)[i] = .int .i64 xs[i] := by
    rw [List.getElem_append_left (by simp [wi10]; exact hi)]
    simp [wi10]
  have h3 : (wi10 xs ++ r)[i]? = some (.int .i64 xs[i]) := by rw [List.getElem?_eq_getElem h1, h2]
  simpa [World.cell?, h] using h3
theorem RowI10.in9 {w : World} {g cap : Nat} {ds : List Int} {r : List Value} (h : RowI10 w g (wi10 ds ++ r)) (hc : ds.length ≤ cap) (hl : ds.length ≤ 1048576) : In9 w (.slice (some ⟨g, 0, none⟩) ds.length cap) ds :=
  ⟨_, cap, rfl, hc, hl, .inr ⟨g, 0, rfl, h.lt, fun j hj => by rw [Nat.zero_add]; exact h.num hj⟩⟩
def Itr10 (B : Nat) (w : World) (v : Value) (ds : List Int) : Prop := w.ownsRow B 3 1 v ds.length (wi10 ds)
theorem Itr10.nil (B : Nat) (w : World) : Itr10 B w (.slice none 0 0) [] := World.ownsRow_nil _ _ _ _
theorem Itr10.now {B : Nat} {w w' : World} {v : Value} {ds : List Int} (h : Itr10 B w v ds) (hb : Below w.heap.size w w') : Itr10 B w' v ds := by
  obtain ⟨q1, q2 | ⟨g, cap, cur, q2, q3, q4, q5⟩⟩ := h
  · exact ⟨q1, .inl q2⟩
  · exact ⟨q1, .inr ⟨g, cap, cur, q2, q3, (hb.block g (Array.getElem?_eq_some_iff.1 q4).1).trans q4, q5⟩⟩
theorem Itr10.off {B g i : Nat} {w : World} {v u : Value} {ds : List Int} (h : Itr10 B w v ds) (hg : g < B) : Itr10 B (w.setCell ⟨g, i, none⟩ u) v ds := by
  obtain ⟨q1, q2 | ⟨g', cap, cur, q2, q3, q4, q5⟩⟩ := h
  · exact ⟨q1, .inl q2⟩
  · exact ⟨q1, .inr ⟨g', cap, cur, q2, q3, (Below.heap_setCell w _ u g' (by simp; omega)).trans q4, q5⟩⟩
theorem Itr10.row {B : Nat} {w : World} {v : Value} {ds : List Int} (h : Itr10 B w v ds) (hn : 0 < ds.length) : ∃ g cap rest, v = .slice (some ⟨g, 0, none⟩) ds.length cap ∧ B ≤ g ∧ RowI10 w g (wi10 ds ++ rest) ∧ ds.length ≤ cap := by
  obtain ⟨q1, ⟨q2, q3⟩ | ⟨g, cap, cur, q2, q3, q4, q5, q6, q7, q8⟩⟩ := h
  · omega
  · rw [Nat.mul_one] at q7 q8
    refine ⟨g, cap, cur.toList.drop ds.length, q2, q3, ?_, q5⟩
    unfold RowI10
    rw [← q8, List.take_append_drop]
    simpa using q4
theorem Itr10.in9 {B : Nat} {w : World} {v : Value} {ds : List Int} (h : Itr10 B w v ds) (hl : ds.length ≤ 1048576) : In9 w v ds := by
  by_cases hn : 0 < ds.length
  · obtain ⟨g, cap, rest, rfl, _, q, qc⟩ := h.row hn
    exact q.in9 qc hl
  · obtain rfl : ds = [] := List.eq_nil_of_length_eq_zero (by omega)
    obtain ⟨q1, ⟨q2, q3⟩ | ⟨g, cap, cur, q2, _, _, q5, _⟩⟩ := h
    · subst q2
      exact ⟨none, 0, rfl, Nat.le_refl _, hl, .inl rfl⟩
    · subst q2
      exact ⟨_, cap, rfl, Nat.zero_le _, hl, .inl rfl⟩
end Go.Proofs.Ytakkmpkkoecnhaa

/- Up13 -/
namespace Go.Proofs.Ytakkmpkkoecnhaa
open Go.RowKit
set_option linter.unusedVariables false

theorem Ivs.itr {B : Nat} {w : World} {v : Value} {l : List Nat} (h : Ivs B w v l) : Itr10 B w v (natv l) := by
  have e1 : (natv l).length = l.length := by simp [natv]
  have e2 : wi10 (natv l) = l.map fun (a : Nat) => Value.int .i64 (a : Int) := by simp [wi10, natv]
  unfold Itr10
  rw [e1, e2]
  exact h
theorem Ivs.in9 {B : Nat} {w : World} {v : Value} {l : List Nat} (h : Ivs B w v l) (hl : l.length ≤ 1048576) : In9 w v (natv l) := h.itr.in9 (by simp [natv]; exact hl)
def UpH (w : World) (n : Nat) (P : Nat → Bool) (gk : Nat) (s3 s4 : Value) (wx : World) : Prop := ∃ t : Nat, s4 = .int .i64 (t : Int) ∧ t ≤ n ∧ gk = n - t ∧ Ivs w.heap.size wx s3 ((List.range t).filter P) ∧ Below w.heap.size w wx
theorem UpH.more {P : Nat → Bool} {t : Nat} (h : P t = true) : (List.range t).filter P ++ [t] = (List.range (t + 1)).filter P := by rw [List.range_succ, List.filter_append]; simp [h]
theorem UpH.skip {P : Nat → Bool} {t : Nat} (h : P t = false) : (List.range t).filter P = (List.range (t + 1)).filter P := by rw [List.range_succ, List.filter_append]; simp [h]
theorem below_own {B : Nat} {w0 w w' : World} {v : Value} {l : List Nat} (h : Below B w0 w) (hB : B ≤ w.heap.size) (ho : Ivs B w v l) (hg : w.grownBy w' v.ownBlock) : Below B w0 w' :=
  h.trans ⟨hg.os, hg.tape, hg.output, hg.size, fun k hk => hg.block k (by omega) (fun e => by have := (ho.blk e.symm).1; omega)⟩
end Go.Proofs.Ytakkmpkkoecnhaa

/- Like11 -/
namespace Go.Proofs.Ytakkmpkkoecnhaa
open Go.RowKit
set_option linter.unusedVariables false

set_option maxHeartbeats 1600000 in
set_option maxRecDepth 100000 in
theorem like_yes {w : World} {v u : Value} {z y : Int} {k l : Nat} (h : Zc w v z k) (h' : Zc w u y l) (hzy : z = y) :
    Calls Try.prog 7 #[v, u] w fun e w' => e = .returned (.bool true) ∧ Below w.heap.size w w' := by
  subst hzy
  obtain ⟨n, xs, a, c, rfl, s0, q0, e0, z0, k0⟩ := h
  obtain ⟨m, ys, b, d, rfl, s1, q1, e1, z1, k1⟩ := h'
  obtain ⟨rfl, rfl⟩ := iv_one (z0.trans z1.symm) q0 q1 e0 e1
  obtain ⟨W0, hW⟩ : ∃ W0, (w.alloc (duo (.bool n) (.slice a xs.length c))).alloc (duo (.bool n) (.slice b xs.length d)) = W0 := ⟨_, rfl⟩
  have b0 := (alloc2 w (duo (.bool n) (.slice a xs.length c)) (duo (.bool n) (.slice b xs.length d))).1
  rw [hW] at b0
  have P2 : Hid (Duo W0 w.heap.size (.bool n) (.slice a xs.length c)) := by unfold Hid; rw [← hW]; exact (Duo.new w _ _).later (by simp) _
  have P3 : Hid (Duo W0 (w.heap.size + 1) (.bool n) (.slice b xs.length d)) := by
    unfold Hid
    rw [← hW]
    have := Duo.new (w.alloc (duo (.bool n) (.slice a xs.length c))) (.bool n) (.slice b xs.length d)
    simpa using this
  have HC := hid (same_yes (s0.now b0) (s1.now b0) rfl)
  have B0 := hid b0
  have x0 := P2.out.c0
  have y0 := P3.out.c0
  have x1 := P2.out.c1
  have y1 := P3.out.c1
  rw [← hW] at x0 y0 x1 y1
  have EW := hid hW
  have hq : (n == n) = true := by simp
  clear s0 s1 z0 z1 b0 q0 q1 e0 e1 hW
  go_enter Try.func7, Try.ntmps7
  go_wp2_with fail
  rw [EW.out]
  refine HC.out.mono ?_
  rintro e w1 ⟨rfl, b1⟩
  have B1 := hid (below_step B0.out b1)
  clear b1 HC x0 y0 x1 y1 EW
  go_wp2
  go_ret
  exact ⟨rfl, B1.out⟩
instance snd11 (r c : Int) (l : Nat) : Decidable (Snd r c l) := by unfold Snd; infer_instance
end Go.Proofs.Ytakkmpkkoecnhaa
