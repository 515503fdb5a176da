/-
  Put10: empty grids; put.
-/
import Derived.Test.YtachdicdfhfoaaaQGrid10
import Derived.Test.YtachdicdfhfoaaaQZAdd
import Derived.Test.YtachdicdfhfoaaaQZOnes
namespace Go.Proofs.Ytachdicdfhfoaaa
open Go.RowKit Go.ChangeMaps Go.MapKept
set_option linter.unusedVariables false

theorem grd_new {w W : World} {r c : Nat} (hW : (w.alloc (.map #[] 0)).alloc (.cells #[.int .i64 (r : Int), .int .i64 (c : Int), .map (some w.heap.size)] 68) = W) (hr : r ≤ 1048576) (hc : c ≤ 1048576) :
    Gd W (w.heap.size + 1) w.heap.size r c ∧ Mp spv spok W w.heap.size (fun _ => Option.none) 0 ∧ Below w.heap.size w W ∧ W.heap.size = w.heap.size + 2 := by
  subst hW
  have h1 := Mp.made spv spok w
  refine ⟨⟨?_, hr, hc⟩, h1.now ((Below.refl _ _).alloc (Nat.le_refl _) _), ((Below.refl _ _).alloc (Nat.le_refl _) _).alloc (by simp) _, by simp⟩
  have := Cel.new (w.alloc (.map #[] 0)) 68 [.int .i64 (r : Int), .int .i64 (c : Int), .map (some w.heap.size)]
  simpa using this
def Emptied (w : World) (r c : Nat) (e : Ending) (w' : World) : Prop := ∃ g b, e = .returned (.pointer (some ⟨g, 0, none⟩)) ∧ Gd w' g b r c ∧ Mp spv spok w' b (fun _ => Option.none) 0 ∧ w.heap.size ≤ g ∧ w.heap.size ≤ b ∧ Below w.heap.size w w'
set_option maxHeartbeats 800000 in
theorem empty_any {w : World} {r c : Nat} (hr : r ≤ 1048576) (hc : c ≤ 1048576) : Calls Try.prog 32 #[.int .i64 (r : Int), .int .i64 (c : Int)] w (Emptied w r c) := by
  obtain ⟨W, hW⟩ : ∃ W, (w.alloc (.map #[] 0)).alloc (.cells #[.int .i64 (r : Int), .int .i64 (c : Int), .map (some w.heap.size)] 68) = W := ⟨_, rfl⟩
  obtain ⟨h1, h2, h3, h4⟩ := grd_new hW hr hc
  have EW := hid hW
  have FIN : Hid (Emptied w r c (.returned (.pointer (some ⟨w.heap.size + 1, 0, none⟩))) W) := ⟨_, _, rfl, h1, h2, by omega, by omega, h3⟩
  clear h1 h2 h3 h4 hW hr hc
  have hmk := fun w => run_makeMap (P := Try.prog) 66 w
  go_enter Try.func32, Try.ntmps32
  go_wp2
  rw [EW.out]
  go_ret
  exact FIN.out
/-- How many places there are behind a put. -/
def putN (o : Option Value) (z : Int) (n : Nat) : Nat := if z = 0 then (if o.isSome then n - 1 else n) else (if o.isSome then n else n + 1)
def Puted (w : World) (b n : Nat) (f : Nat × Nat → Option Value) (s : Nat × Nat) (v : Value) (z : Int) (e : Ending) (w' : World) : Prop := e = .returned (.tuple #[]) ∧ Mp spv spok w' b (upd f s (if z = 0 then Option.none else some v)) (putN (f s) z n) ∧ w.grownBy w' (some b)
theorem grown_low {W w w' : World} {b : Nat} (h : Below w.heap.size w W) (hg : W.grownBy w' (some b)) : w.grownBy w' (some b) :=
  ⟨hg.os.trans h.os, hg.tape.trans h.tape, hg.output.trans h.output, Nat.le_trans h.size hg.size, fun i hi hne => (hg.block i (Nat.lt_of_lt_of_le hi h.size) hne).trans (h.block i hi)⟩
set_option maxHeartbeats 1600000 in
theorem put_any {w : World} {b n k : Nat} {f : Nat × Nat → Option Value} {s : Nat × Nat} {v : Value} {z : Int} (h : Mp spv spok w b f n) (hn : n < maxLen) (hs : spok s) (hz : Zi w v z k) :
    Calls Try.prog 33 #[.map (some b), spv s, v] w (Puted w b n f s v z) := by
  obtain ⟨m, xs, a, c, rfl, -⟩ := id hz
  obtain ⟨i, j⟩ := s
  obtain ⟨W0, hW⟩ : ∃ W0, (w.alloc (.cells #[.int .i64 (i : Int), .int .i64 (j : Int)] 71)).alloc (duo (.bool m) (.slice a xs.length c)) = W0 := ⟨_, rfl⟩
  obtain ⟨b0, sz0⟩ := alloc2 w (.cells #[.int .i64 (i : Int), .int .i64 (j : Int)] 71) (duo (.bool m) (.slice a xs.length c))
  rw [hW] at b0 sz0
  have P1 : Cel W0 w.heap.size 71 [.int .i64 (i : Int), .int .i64 (j : Int)] := by
    rw [← hW]
    exact (Cel.new w 71 [.int .i64 (i : Int), .int .i64 (j : Int)]).step ((Below.refl _ _).alloc (Nat.le_refl _) _)
  have P2 : Duo W0 (w.heap.size + 1) (.bool m) (.slice a xs.length c) := by
    rw [← hW]
    have := heap_alloc_new (w.alloc (.cells #[.int .i64 (i : Int), .int .i64 (j : Int)] 71)) (duo (.bool m) (.slice a xs.length c))
    simpa [Duo] using this
  have HS := hid (sign_z (hz.now b0))
  have HM := hid (h.now b0)
  have EW := hid hW
  have G0 := hid b0
  have x0 := P2.c0
  have x1 := P2.c1
  have Q1 := hid P1
  have Q2 := hid P2
  have HN := hid hn
  have HO := hid hs
  clear hz h b0 hW P1 P2 sz0 hn hs
  show Calls Try.prog 33 #[.map (some b), .agg #[.int .i64 (i : Int), .int .i64 (j : Int)], .agg #[.bool m, .slice a xs.length c]] w _
  go_enter Try.func33, Try.ntmps33
  go_wp2_with fail
  rw [EW.out]
  refine HS.out.mono ?_
  rintro e w1 ⟨rfl, b1⟩
  have y0 := (Q1.out.step b1).at (i := 0) rfl
  have y1 := (Q1.out.step b1).at (i := 1) rfl
  have HM1 := hid (HM.out.now b1)
  have G1 := hid (below_step G0.out b1)
  clear HS HM EW
  by_cases hz0 : z = 0
  · subst hz0
    have FIN : Hid (∀ w2, Mp spv spok w2 b (upd f (i, j) Option.none) (if (f (i, j)).isSome then n - 1 else n) → w1.grownBy w2 (some b) → Puted w b n f (i, j) (.agg #[.bool m, .slice a xs.length c]) 0 (.returned (.tuple #[])) w2) :=
      fun w2 h2 h3 => ⟨rfl, by simpa [putN] using h2, grown_low G1.out h3⟩
    clear G0 G1 Q1 Q2 x0 x1 b1
    go_wp2_with (first | (at_delete; refine wpList_drop10 _ rfl _ _ _ _ rfl _ ks10 Try.map10 b n f rfl HM1.out (i, j) rfl HO.out ?_; intro w2 q1 q2 q3) | go_in)
    first
      | (refine bodyPost_ret (results_none rfl _ _ _) rfl ?_)
      | ((try simp only [Exit.inBlock, Exit.then]); refine bodyPost_end (results_none rfl _ _ _) rfl ?_)
    exact FIN.out w2 q1 q2
  · have ht : (cmpI z 0 == 0) = false := by
      unfold cmpI
      split <;> rename_i h <;> simp <;> omega
    generalize cmpI z 0 = S at *
    have FIN : Hid (∀ w2, Mp spv spok w2 b (upd f (i, j) (some (.agg #[.bool m, .slice a xs.length c]))) (if (f (i, j)).isSome then n else n + 1) → w1.grownBy w2 (some b) → Puted w b n f (i, j) (.agg #[.bool m, .slice a xs.length c]) z (.returned (.tuple #[])) w2) :=
      fun w2 h2 h3 => ⟨rfl, by simpa [putN, hz0] using h2, grown_low G1.out h3⟩
    have x2 := (Q2.out.step b1).c0
    have x3 := (Q2.out.step b1).c1
    clear G0 G1 Q1 Q2 x0 x1 b1
    go_wp2_with (first | (at_mapUpdate; refine wpList_store10 _ rfl _ _ _ _ rfl _ _ ks10 Try.map10 b n f rfl HM1.out HN.out (i, j) _ rfl rfl HO.out ?_; intro w2 q1 q2 q3) | go_in)
    first
      | (refine bodyPost_ret (results_none rfl _ _ _) rfl ?_)
      | ((try simp only [Exit.inBlock, Exit.then]); refine bodyPost_end (results_none rfl _ _ _) rfl ?_)
    exact FIN.out w2 q1 q2
end Go.Proofs.Ytachdicdfhfoaaa
