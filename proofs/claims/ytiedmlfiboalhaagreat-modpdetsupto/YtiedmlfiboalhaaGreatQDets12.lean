/-
  Dets12: the law ModpDets.
-/
import Derived.Test.YtiedmlfiboalhaaGreatQSb12ToLin12
import Derived.Test.YtiedmlfiboalhaaGreatQSu12ToDm12
import Derived.Test.YtiedmlfiboalhaaGreatQZr12ToLe12
import Derived.Test.YtiedmlfiboalhaaGreatQColsP9ToOpenM9
namespace Go.Proofs.YtiedmlfiboalhaaGreat
open Go.RowKit
set_option linter.unusedVariables false

set_option maxHeartbeats 6400000 in
set_option maxRecDepth 100000 in
theorem modpDets_out0 {w : World} {r c r' c' : Int} {a a' : Option Addr} {l cap l' cap' p : Nat} (hl : l ≤ 1048576) (hl' : l' ≤ 1048576) (hs : ¬ Snd r c l) :
    Calls Tryz.prog 3 #[mrV r c a l cap, mrV r' c' a' l' cap', .int .u64 (p : Int)] w fun e w' => e = .returned (.bool true) ∧ Below w.heap.size w w' := by
  have HSA : Hid (∀ w', Calls Tryz.prog 5 #[mrV r c a l cap] w' fun e w'' => e = .returned (.bool false) ∧ Below w'.heap.size w' w'') := fun w' => soundB (s := false) hl ⟨(fun h => by cases h), fun h => absurd h hs⟩
  obtain ⟨W0, hW⟩ : ∃ W0, (w.alloc (mrO r c a l cap)).alloc (mrO r' c' a' l' cap') = W0 := ⟨_, rfl⟩
  have b0 : Below w.heap.size w W0 := by rw [← hW]; exact ((Below.refl _ _).alloc (Nat.le_refl _) _).alloc (by simp) _
  have PA : Hid (Cel W0 w.heap.size 24 (mrC r c a l cap)) := by unfold Hid; rw [← hW]; exact (Cel.new w _ _).step (alo12 _ _).1
  have PU : Hid (Cel W0 (w.heap.size + 1) 24 (mrC r' c' a' l' cap')) := by
    unfold Hid; rw [← hW]
    have := Cel.new (w.alloc (mrO r c a l cap)) 24 (mrC r' c' a' l' cap')
    simpa using this
  have HW := hid (wakes12 W0)
  have G0 := hid b0
  have EW := hid hW
  clear b0 hW hs
  go_enter Tryz.func3, Tryz.ntmps3
  go_wp2_with fail
  rw [EW.out]
  refine HW.out.mono ?_
  rintro e w1 ⟨rfl, b1⟩
  replace PA := hid (PA.out.step b1)
  replace PU := hid (PU.out.step b1)
  have G := hid (below_step G0.out b1)
  clear HW EW b1 G0
  have x0 := PA.out.at (i := 0) rfl
  have x1 := PA.out.at (i := 1) rfl
  have x2 := PA.out.at (i := 2) rfl
  have y0 := PU.out.at (i := 0) rfl
  have y1 := PU.out.at (i := 1) rfl
  have y2 := PU.out.at (i := 2) rfl
  go_wp2_with fail
  refine (HSA.out w1).mono ?_
  rintro e w2 ⟨rfl, b⟩
  replace PA := hid (PA.out.step b)
  replace PU := hid (PU.out.step b)
  replace G := hid (below_step G.out b)
  clear b
  clear x0 x1 x2 y0 y1 y2
  have x0 := PA.out.at (i := 0) rfl
  have x1 := PA.out.at (i := 1) rfl
  have x2 := PA.out.at (i := 2) rfl
  have y0 := PU.out.at (i := 0) rfl
  have y1 := PU.out.at (i := 1) rfl
  have y2 := PU.out.at (i := 2) rfl
  go_wp2
  go_ret
  exact ⟨rfl, G.out⟩

set_option maxHeartbeats 6400000 in
set_option maxRecDepth 100000 in
theorem modpDets_out1 {w : World} {r c r' c' : Int} {a a' : Option Addr} {l cap l' cap' p : Nat} (hl : l ≤ 1048576) (hl' : l' ≤ 1048576) (hs : Snd r c l) (ht : ¬ Snd r' c' l') :
    Calls Tryz.prog 3 #[mrV r c a l cap, mrV r' c' a' l' cap', .int .u64 (p : Int)] w fun e w' => e = .returned (.bool true) ∧ Below w.heap.size w w' := by
  have HSA : Hid (∀ w', Calls Tryz.prog 5 #[mrV r c a l cap] w' fun e w'' => e = .returned (.bool true) ∧ Below w'.heap.size w' w'') := fun w' => soundB (s := true) hl ⟨fun _ => hs, fun _ => rfl⟩
  have HSU : Hid (∀ w', Calls Tryz.prog 5 #[mrV r' c' a' l' cap'] w' fun e w'' => e = .returned (.bool false) ∧ Below w'.heap.size w' w'') := fun w' => soundB (s := false) hl' ⟨(fun h => by cases h), fun h => absurd h ht⟩
  obtain ⟨W0, hW⟩ : ∃ W0, (w.alloc (mrO r c a l cap)).alloc (mrO r' c' a' l' cap') = W0 := ⟨_, rfl⟩
  have b0 : Below w.heap.size w W0 := by rw [← hW]; exact ((Below.refl _ _).alloc (Nat.le_refl _) _).alloc (by simp) _
  have PA : Hid (Cel W0 w.heap.size 24 (mrC r c a l cap)) := by unfold Hid; rw [← hW]; exact (Cel.new w _ _).step (alo12 _ _).1
  have PU : Hid (Cel W0 (w.heap.size + 1) 24 (mrC r' c' a' l' cap')) := by
    unfold Hid; rw [← hW]
    have := Cel.new (w.alloc (mrO r c a l cap)) 24 (mrC r' c' a' l' cap')
    simpa using this
  have HW := hid (wakes12 W0)
  have G0 := hid b0
  have EW := hid hW
  clear b0 hW hs ht
  go_enter Tryz.func3, Tryz.ntmps3
  go_wp2_with fail
  rw [EW.out]
  refine HW.out.mono ?_
  rintro e w1 ⟨rfl, b1⟩
  replace PA := hid (PA.out.step b1)
  replace PU := hid (PU.out.step b1)
  have G := hid (below_step G0.out b1)
  clear HW EW b1 G0
  have x0 := PA.out.at (i := 0) rfl
  have x1 := PA.out.at (i := 1) rfl
  have x2 := PA.out.at (i := 2) rfl
  have y0 := PU.out.at (i := 0) rfl
  have y1 := PU.out.at (i := 1) rfl
  have y2 := PU.out.at (i := 2) rfl
  go_wp2_with fail
  refine (HSA.out w1).mono ?_
  rintro e w2 ⟨rfl, b⟩
  replace PA := hid (PA.out.step b)
  replace PU := hid (PU.out.step b)
  replace G := hid (below_step G.out b)
  clear b
  clear x0 x1 x2 y0 y1 y2
  have x0 := PA.out.at (i := 0) rfl
  have x1 := PA.out.at (i := 1) rfl
  have x2 := PA.out.at (i := 2) rfl
  have y0 := PU.out.at (i := 0) rfl
  have y1 := PU.out.at (i := 1) rfl
  have y2 := PU.out.at (i := 2) rfl
  go_wp2_with fail
  refine (HSU.out w2).mono ?_
  rintro e w3 ⟨rfl, b⟩
  replace PA := hid (PA.out.step b)
  replace PU := hid (PU.out.step b)
  replace G := hid (below_step G.out b)
  clear b
  clear x0 x1 x2 y0 y1 y2
  have x0 := PA.out.at (i := 0) rfl
  have x1 := PA.out.at (i := 1) rfl
  have x2 := PA.out.at (i := 2) rfl
  have y0 := PU.out.at (i := 0) rfl
  have y1 := PU.out.at (i := 1) rfl
  have y2 := PU.out.at (i := 2) rfl
  go_wp2
  go_ret
  exact ⟨rfl, G.out⟩

set_option maxHeartbeats 6400000 in
set_option maxRecDepth 100000 in
theorem modpDets_out2 {w : World} {r c r' c' : Int} {a a' : Option Addr} {l cap l' cap' p : Nat} (hl : l ≤ 1048576) (hl' : l' ≤ 1048576) (hs : Snd r c l) (ht : Snd r' c' l') (hg : gdB p = false) :
    Calls Tryz.prog 3 #[mrV r c a l cap, mrV r' c' a' l' cap', .int .u64 (p : Int)] w fun e w' => e = .returned (.bool true) ∧ Below w.heap.size w w' := by
  have HSA : Hid (∀ w', Calls Tryz.prog 5 #[mrV r c a l cap] w' fun e w'' => e = .returned (.bool true) ∧ Below w'.heap.size w' w'') := fun w' => soundB (s := true) hl ⟨fun _ => hs, fun _ => rfl⟩
  have HSU : Hid (∀ w', Calls Tryz.prog 5 #[mrV r' c' a' l' cap'] w' fun e w'' => e = .returned (.bool true) ∧ Below w'.heap.size w' w'') := fun w' => soundB (s := true) hl' ⟨fun _ => ht, fun _ => rfl⟩
  have HLP : Hid (∀ w', Calls Tryz.prog 6 #[.int .u64 (p : Int)] w' fun e w'' => e = .returned (.bool false) ∧ w'' = w') := fun w' => by have := lawPrimeB (w := w') (p := p); rw [hg] at this; exact this
  obtain ⟨W0, hW⟩ : ∃ W0, (w.alloc (mrO r c a l cap)).alloc (mrO r' c' a' l' cap') = W0 := ⟨_, rfl⟩
  have b0 : Below w.heap.size w W0 := by rw [← hW]; exact ((Below.refl _ _).alloc (Nat.le_refl _) _).alloc (by simp) _
  have PA : Hid (Cel W0 w.heap.size 24 (mrC r c a l cap)) := by unfold Hid; rw [← hW]; exact (Cel.new w _ _).step (alo12 _ _).1
  have PU : Hid (Cel W0 (w.heap.size + 1) 24 (mrC r' c' a' l' cap')) := by
    unfold Hid; rw [← hW]
    have := Cel.new (w.alloc (mrO r c a l cap)) 24 (mrC r' c' a' l' cap')
    simpa using this
  have HW := hid (wakes12 W0)
  have G0 := hid b0
  have EW := hid hW
  clear b0 hW hs ht hg
  go_enter Tryz.func3, Tryz.ntmps3
  go_wp2_with fail
  rw [EW.out]
  refine HW.out.mono ?_
  rintro e w1 ⟨rfl, b1⟩
  replace PA := hid (PA.out.step b1)
  replace PU := hid (PU.out.step b1)
  have G := hid (below_step G0.out b1)
  clear HW EW b1 G0
  have x0 := PA.out.at (i := 0) rfl
  have x1 := PA.out.at (i := 1) rfl
  have x2 := PA.out.at (i := 2) rfl
  have y0 := PU.out.at (i := 0) rfl
  have y1 := PU.out.at (i := 1) rfl
  have y2 := PU.out.at (i := 2) rfl
  go_wp2_with fail
  refine (HSA.out w1).mono ?_
  rintro e w2 ⟨rfl, b⟩
  replace PA := hid (PA.out.step b)
  replace PU := hid (PU.out.step b)
  replace G := hid (below_step G.out b)
  clear b
  clear x0 x1 x2 y0 y1 y2
  have x0 := PA.out.at (i := 0) rfl
  have x1 := PA.out.at (i := 1) rfl
  have x2 := PA.out.at (i := 2) rfl
  have y0 := PU.out.at (i := 0) rfl
  have y1 := PU.out.at (i := 1) rfl
  have y2 := PU.out.at (i := 2) rfl
  go_wp2_with fail
  refine (HSU.out w2).mono ?_
  rintro e w3 ⟨rfl, b⟩
  replace PA := hid (PA.out.step b)
  replace PU := hid (PU.out.step b)
  replace G := hid (below_step G.out b)
  clear b
  clear x0 x1 x2 y0 y1 y2
  have x0 := PA.out.at (i := 0) rfl
  have x1 := PA.out.at (i := 1) rfl
  have x2 := PA.out.at (i := 2) rfl
  have y0 := PU.out.at (i := 0) rfl
  have y1 := PU.out.at (i := 1) rfl
  have y2 := PU.out.at (i := 2) rfl
  go_wp2_with fail
  refine (HLP.out w3).mono ?_
  rintro e w4 ⟨rfl, rfl⟩
  go_wp2
  go_ret
  exact ⟨rfl, G.out⟩

set_option maxHeartbeats 6400000 in
set_option maxRecDepth 100000 in
theorem modpDets_out3 {w : World} {r c r' c' : Int} {a a' : Option Addr} {l cap l' cap' p : Nat} (hl : l ≤ 1048576) (hl' : l' ≤ 1048576) (hs : Snd r c l) (ht : Snd r' c' l') (hg : gdB p = true) (hne : r ≠ c) :
    Calls Tryz.prog 3 #[mrV r c a l cap, mrV r' c' a' l' cap', .int .u64 (p : Int)] w fun e w' => e = .returned (.bool true) ∧ Below w.heap.size w w' := by
  have HSA : Hid (∀ w', Calls Tryz.prog 5 #[mrV r c a l cap] w' fun e w'' => e = .returned (.bool true) ∧ Below w'.heap.size w' w'') := fun w' => soundB (s := true) hl ⟨fun _ => hs, fun _ => rfl⟩
  have HSU : Hid (∀ w', Calls Tryz.prog 5 #[mrV r' c' a' l' cap'] w' fun e w'' => e = .returned (.bool true) ∧ Below w'.heap.size w' w'') := fun w' => soundB (s := true) hl' ⟨fun _ => ht, fun _ => rfl⟩
  have HLP : Hid (∀ w', Calls Tryz.prog 6 #[.int .u64 (p : Int)] w' fun e w'' => e = .returned (.bool true) ∧ w'' = w') := fun w' => by have := lawPrimeB (w := w') (p := p); rw [hg] at this; exact this
  obtain ⟨W0, hW⟩ : ∃ W0, (w.alloc (mrO r c a l cap)).alloc (mrO r' c' a' l' cap') = W0 := ⟨_, rfl⟩
  have b0 : Below w.heap.size w W0 := by rw [← hW]; exact ((Below.refl _ _).alloc (Nat.le_refl _) _).alloc (by simp) _
  have PA : Hid (Cel W0 w.heap.size 24 (mrC r c a l cap)) := by unfold Hid; rw [← hW]; exact (Cel.new w _ _).step (alo12 _ _).1
  have PU : Hid (Cel W0 (w.heap.size + 1) 24 (mrC r' c' a' l' cap')) := by
    unfold Hid; rw [← hW]
    have := Cel.new (w.alloc (mrO r c a l cap)) 24 (mrC r' c' a' l' cap')
    simpa using this
  have HW := hid (wakes12 W0)
  have G0 := hid b0
  have EW := hid hW
  have q1 : (r != c) = true := by simpa using hne
  clear b0 hW hs ht hg hne
  go_enter Tryz.func3, Tryz.ntmps3
  go_wp2_with fail
  rw [EW.out]
  refine HW.out.mono ?_
  rintro e w1 ⟨rfl, b1⟩
  replace PA := hid (PA.out.step b1)
  replace PU := hid (PU.out.step b1)
  have G := hid (below_step G0.out b1)
  clear HW EW b1 G0
  have x0 := PA.out.at (i := 0) rfl
  have x1 := PA.out.at (i := 1) rfl
  have x2 := PA.out.at (i := 2) rfl
  have y0 := PU.out.at (i := 0) rfl
  have y1 := PU.out.at (i := 1) rfl
  have y2 := PU.out.at (i := 2) rfl
  go_wp2_with fail
  refine (HSA.out w1).mono ?_
  rintro e w2 ⟨rfl, b⟩
  replace PA := hid (PA.out.step b)
  replace PU := hid (PU.out.step b)
  replace G := hid (below_step G.out b)
  clear b
  clear x0 x1 x2 y0 y1 y2
  have x0 := PA.out.at (i := 0) rfl
  have x1 := PA.out.at (i := 1) rfl
  have x2 := PA.out.at (i := 2) rfl
  have y0 := PU.out.at (i := 0) rfl
  have y1 := PU.out.at (i := 1) rfl
  have y2 := PU.out.at (i := 2) rfl
  go_wp2_with fail
  refine (HSU.out w2).mono ?_
  rintro e w3 ⟨rfl, b⟩
  replace PA := hid (PA.out.step b)
  replace PU := hid (PU.out.step b)
  replace G := hid (below_step G.out b)
  clear b
  clear x0 x1 x2 y0 y1 y2
  have x0 := PA.out.at (i := 0) rfl
  have x1 := PA.out.at (i := 1) rfl
  have x2 := PA.out.at (i := 2) rfl
  have y0 := PU.out.at (i := 0) rfl
  have y1 := PU.out.at (i := 1) rfl
  have y2 := PU.out.at (i := 2) rfl
  go_wp2_with fail
  refine (HLP.out w3).mono ?_
  rintro e w4 ⟨rfl, rfl⟩
  go_wp2
  go_ret
  exact ⟨rfl, G.out⟩

set_option maxHeartbeats 6400000 in
set_option maxRecDepth 100000 in
theorem modpDets_out4 {w : World} {r c r' c' : Int} {a a' : Option Addr} {l cap l' cap' p : Nat} (hl : l ≤ 1048576) (hl' : l' ≤ 1048576) (hs : Snd r c l) (ht : Snd r' c' l') (hg : gdB p = true) (he : r = c) (hne : r' ≠ r) :
    Calls Tryz.prog 3 #[mrV r c a l cap, mrV r' c' a' l' cap', .int .u64 (p : Int)] w fun e w' => e = .returned (.bool true) ∧ Below w.heap.size w w' := by
  have HSA : Hid (∀ w', Calls Tryz.prog 5 #[mrV r c a l cap] w' fun e w'' => e = .returned (.bool true) ∧ Below w'.heap.size w' w'') := fun w' => soundB (s := true) hl ⟨fun _ => hs, fun _ => rfl⟩
  have HSU : Hid (∀ w', Calls Tryz.prog 5 #[mrV r' c' a' l' cap'] w' fun e w'' => e = .returned (.bool true) ∧ Below w'.heap.size w' w'') := fun w' => soundB (s := true) hl' ⟨fun _ => ht, fun _ => rfl⟩
  have HLP : Hid (∀ w', Calls Tryz.prog 6 #[.int .u64 (p : Int)] w' fun e w'' => e = .returned (.bool true) ∧ w'' = w') := fun w' => by have := lawPrimeB (w := w') (p := p); rw [hg] at this; exact this
  subst he
  obtain ⟨W0, hW⟩ : ∃ W0, (w.alloc (mrO r r a l cap)).alloc (mrO r' c' a' l' cap') = W0 := ⟨_, rfl⟩
  have b0 : Below w.heap.size w W0 := by rw [← hW]; exact ((Below.refl _ _).alloc (Nat.le_refl _) _).alloc (by simp) _
  have PA : Hid (Cel W0 w.heap.size 24 (mrC r r a l cap)) := by unfold Hid; rw [← hW]; exact (Cel.new w _ _).step (alo12 _ _).1
  have PU : Hid (Cel W0 (w.heap.size + 1) 24 (mrC r' c' a' l' cap')) := by
    unfold Hid; rw [← hW]
    have := Cel.new (w.alloc (mrO r r a l cap)) 24 (mrC r' c' a' l' cap')
    simpa using this
  have HW := hid (wakes12 W0)
  have G0 := hid b0
  have EW := hid hW
  have q1 : (r != r) = false := by simp
  have q2 : (r' != r) = true := by simpa using hne
  clear b0 hW hs ht hg hne
  go_enter Tryz.func3, Tryz.ntmps3
  go_wp2_with fail
  rw [EW.out]
  refine HW.out.mono ?_
  rintro e w1 ⟨rfl, b1⟩
  replace PA := hid (PA.out.step b1)
  replace PU := hid (PU.out.step b1)
  have G := hid (below_step G0.out b1)
  clear HW EW b1 G0
  have x0 := PA.out.at (i := 0) rfl
  have x1 := PA.out.at (i := 1) rfl
  have x2 := PA.out.at (i := 2) rfl
  have y0 := PU.out.at (i := 0) rfl
  have y1 := PU.out.at (i := 1) rfl
  have y2 := PU.out.at (i := 2) rfl
  go_wp2_with fail
  refine (HSA.out w1).mono ?_
  rintro e w2 ⟨rfl, b⟩
  replace PA := hid (PA.out.step b)
  replace PU := hid (PU.out.step b)
  replace G := hid (below_step G.out b)
  clear b
  clear x0 x1 x2 y0 y1 y2
  have x0 := PA.out.at (i := 0) rfl
  have x1 := PA.out.at (i := 1) rfl
  have x2 := PA.out.at (i := 2) rfl
  have y0 := PU.out.at (i := 0) rfl
  have y1 := PU.out.at (i := 1) rfl
  have y2 := PU.out.at (i := 2) rfl
  go_wp2_with fail
  refine (HSU.out w2).mono ?_
  rintro e w3 ⟨rfl, b⟩
  replace PA := hid (PA.out.step b)
  replace PU := hid (PU.out.step b)
  replace G := hid (below_step G.out b)
  clear b
  clear x0 x1 x2 y0 y1 y2
  have x0 := PA.out.at (i := 0) rfl
  have x1 := PA.out.at (i := 1) rfl
  have x2 := PA.out.at (i := 2) rfl
  have y0 := PU.out.at (i := 0) rfl
  have y1 := PU.out.at (i := 1) rfl
  have y2 := PU.out.at (i := 2) rfl
  go_wp2_with fail
  refine (HLP.out w3).mono ?_
  rintro e w4 ⟨rfl, rfl⟩
  go_wp2
  go_ret
  exact ⟨rfl, G.out⟩

set_option maxHeartbeats 6400000 in
set_option maxRecDepth 100000 in
theorem modpDets_out5 {w : World} {r c r' c' : Int} {a a' : Option Addr} {l cap l' cap' p : Nat} (hl : l ≤ 1048576) (hl' : l' ≤ 1048576) (hs : Snd r c l) (ht : Snd r' c' l') (hg : gdB p = true) (he : r = c) (he2 : r' = r) (hne : c' ≠ r) :
    Calls Tryz.prog 3 #[mrV r c a l cap, mrV r' c' a' l' cap', .int .u64 (p : Int)] w fun e w' => e = .returned (.bool true) ∧ Below w.heap.size w w' := by
  have HSA : Hid (∀ w', Calls Tryz.prog 5 #[mrV r c a l cap] w' fun e w'' => e = .returned (.bool true) ∧ Below w'.heap.size w' w'') := fun w' => soundB (s := true) hl ⟨fun _ => hs, fun _ => rfl⟩
  have HSU : Hid (∀ w', Calls Tryz.prog 5 #[mrV r' c' a' l' cap'] w' fun e w'' => e = .returned (.bool true) ∧ Below w'.heap.size w' w'') := fun w' => soundB (s := true) hl' ⟨fun _ => ht, fun _ => rfl⟩
  have HLP : Hid (∀ w', Calls Tryz.prog 6 #[.int .u64 (p : Int)] w' fun e w'' => e = .returned (.bool true) ∧ w'' = w') := fun w' => by have := lawPrimeB (w := w') (p := p); rw [hg] at this; exact this
  subst he
  subst he2
  obtain ⟨W0, hW⟩ : ∃ W0, (w.alloc (mrO r' r' a l cap)).alloc (mrO r' c' a' l' cap') = W0 := ⟨_, rfl⟩
  have b0 : Below w.heap.size w W0 := by rw [← hW]; exact ((Below.refl _ _).alloc (Nat.le_refl _) _).alloc (by simp) _
  have PA : Hid (Cel W0 w.heap.size 24 (mrC r' r' a l cap)) := by unfold Hid; rw [← hW]; exact (Cel.new w _ _).step (alo12 _ _).1
  have PU : Hid (Cel W0 (w.heap.size + 1) 24 (mrC r' c' a' l' cap')) := by
    unfold Hid; rw [← hW]
    have := Cel.new (w.alloc (mrO r' r' a l cap)) 24 (mrC r' c' a' l' cap')
    simpa using this
  have HW := hid (wakes12 W0)
  have G0 := hid b0
  have EW := hid hW
  have q1 : (r' != r') = false := by simp
  have q2 : (c' != r') = true := by simpa using hne
  clear b0 hW hs ht hg hne
  go_enter Tryz.func3, Tryz.ntmps3
  go_wp2_with fail
  rw [EW.out]
  refine HW.out.mono ?_
  rintro e w1 ⟨rfl, b1⟩
  replace PA := hid (PA.out.step b1)
  replace PU := hid (PU.out.step b1)
  have G := hid (below_step G0.out b1)
  clear HW EW b1 G0
  have x0 := PA.out.at (i := 0) rfl
  have x1 := PA.out.at (i := 1) rfl
  have x2 := PA.out.at (i := 2) rfl
  have y0 := PU.out.at (i := 0) rfl
  have y1 := PU.out.at (i := 1) rfl
  have y2 := PU.out.at (i := 2) rfl
  go_wp2_with fail
  refine (HSA.out w1).mono ?_
  rintro e w2 ⟨rfl, b⟩
  replace PA := hid (PA.out.step b)
  replace PU := hid (PU.out.step b)
  replace G := hid (below_step G.out b)
  clear b
  clear x0 x1 x2 y0 y1 y2
  have x0 := PA.out.at (i := 0) rfl
  have x1 := PA.out.at (i := 1) rfl
  have x2 := PA.out.at (i := 2) rfl
  have y0 := PU.out.at (i := 0) rfl
  have y1 := PU.out.at (i := 1) rfl
  have y2 := PU.out.at (i := 2) rfl
  go_wp2_with fail
  refine (HSU.out w2).mono ?_
  rintro e w3 ⟨rfl, b⟩
  replace PA := hid (PA.out.step b)
  replace PU := hid (PU.out.step b)
  replace G := hid (below_step G.out b)
  clear b
  clear x0 x1 x2 y0 y1 y2
  have x0 := PA.out.at (i := 0) rfl
  have x1 := PA.out.at (i := 1) rfl
  have x2 := PA.out.at (i := 2) rfl
  have y0 := PU.out.at (i := 0) rfl
  have y1 := PU.out.at (i := 1) rfl
  have y2 := PU.out.at (i := 2) rfl
  go_wp2_with fail
  refine (HLP.out w3).mono ?_
  rintro e w4 ⟨rfl, rfl⟩
  go_wp2
  go_ret
  exact ⟨rfl, G.out⟩

theorem Mc.zl12d {w : World} {x y v : Value} {r c : Nat} {zs : List Int} {k : Nat} (h : Mc w (.agg #[x, y, v]) r c zs k) : Zl w v zs k := by
  obtain ⟨at_, ps, e1, e2, e3, -⟩ := h
  simp only [Value.agg.injEq, Array.mk.injEq, List.cons.injEq, and_true] at e1
  rw [e1.2.2]
  exact zl_of e2 e3.zis
theorem wrap_isU {x : Int} (h0 : 0 ≤ x) (h1 : x < 18446744073709551616) : IntKind.u64.wrap x = x := by rw [IntKind.wrap_u64]; exact Int.emod_eq_of_lt h0 h1

set_option maxHeartbeats 6400000 in
set_option maxRecDepth 100000 in
theorem modpDets_zero {w : World} {va vu : Value} {r p : Nat} {xs ys : List Int} (hp : gdB p = true) (ha : Mx w va r r xs 1048576) (hu : Mx w vu r r ys 1048576) (hd0 : detN p r xs = 0) :
    Calls Tryz.prog 3 #[va, vu, .int .u64 (p : Int)] w fun e w' => e = .returned (.bool true) ∧ Below w.heap.size w w' := by
  obtain ⟨hpr, hp2⟩ := gd_parts hp
  have hp1 := hpr.1
  have MA := hid ha
  have MU := hid hu
  have hxl : xs.length = r * r := by obtain ⟨_, _, _, _, _, q, _⟩ := ha; exact q
  have hyl : ys.length = r * r := by obtain ⟨_, _, _, _, _, q, _⟩ := hu; exact q
  obtain ⟨a, cap, rfl, hr, -⟩ := ha.form
  obtain ⟨a', cap', rfl, -, -⟩ := hu.form
  have SNA : Snd (r : Int) (r : Int) (r * r) := ⟨by omega, by omega, by omega, by omega, by simp⟩
  have hb1 : r * r ≤ 64 * 64 := Nat.mul_le_mul hr hr
  haveI : NeZero p := ⟨by omega⟩
  have DM := hid (detN_mul hpr hxl hyl)
  have DT := hid (detN_turn hpr hxl)
  have DU := hid (detN_unit (r := r) hpr)
  obtain ⟨rx0, rx1⟩ := detN_range hpr hxl
  obtain ⟨ry0, ry1⟩ := detN_range hpr hyl
  have HFU : Hid (wkR p r r xs < r) := (full_iff hpr hxl).2 hd0
  obtain ⟨l, hl⟩ : ∃ l, r * r = l := ⟨_, rfl⟩
  have HL := hid hl
  rw [hl] at MA MU hb1 SNA ⊢
  have HSA : Hid (∀ w', Calls Tryz.prog 5 #[mrV (r : Int) (r : Int) a l cap] w' fun e w'' => e = .returned (.bool true) ∧ Below w'.heap.size w' w'') := fun w' => soundB (s := true) (by omega) ⟨fun _ => SNA, fun _ => rfl⟩
  have HSU : Hid (∀ w', Calls Tryz.prog 5 #[mrV (r : Int) (r : Int) a' l cap'] w' fun e w'' => e = .returned (.bool true) ∧ Below w'.heap.size w' w'') := fun w' => soundB (s := true) (by omega) ⟨fun _ => SNA, fun _ => rfl⟩
  have HSK : Hid (∀ w' a cap, Calls Tryz.prog 5 #[mrV (r : Int) (r : Int) a l cap] w' fun e w'' => e = .returned (.bool true) ∧ Below w'.heap.size w' w'') := fun w' a cap => soundB (s := true) (by omega) ⟨fun _ => SNA, fun _ => rfl⟩
  have HLP : Hid (∀ w', Calls Tryz.prog 6 #[.int .u64 (p : Int)] w' fun e w'' => e = .returned (.bool true) ∧ w'' = w') := fun w' => by have := lawPrimeB (w := w') (p := p); rw [hp] at this; exact this
  obtain ⟨W0, hW⟩ : ∃ W0, (w.alloc (mrO (r : Int) (r : Int) a l cap)).alloc (mrO (r : Int) (r : Int) a' l cap') = W0 := ⟨_, rfl⟩
  have b0 : Below w.heap.size w W0 := by rw [← hW]; exact ((Below.refl _ _).alloc (Nat.le_refl _) _).alloc (by simp) _
  have PA : Hid (Cel W0 w.heap.size 24 (mrC (r : Int) (r : Int) a l cap)) := by unfold Hid; rw [← hW]; exact (Cel.new w _ _).step (alo12 _ _).1
  have PU : Hid (Cel W0 (w.heap.size + 1) 24 (mrC (r : Int) (r : Int) a' l cap')) := by
    unfold Hid; rw [← hW]
    have := Cel.new (w.alloc (mrO (r : Int) (r : Int) a l cap)) 24 (mrC (r : Int) (r : Int) a' l cap')
    simpa using this
  have HW := hid (wakes12 W0)
  have G0 := hid b0
  have EW := hid hW
  have HMU : Hid (∀ w', Below w.heap.size w w' → Calls Tryz.prog 7 #[matv r r (.slice a l cap), matv r r (.slice a' l cap')] w' (GivesMO w' r r (mulL r r r xs ys) 2097216)) := fun w' h => rmul12 (MA.out.now h) (MU.out.now h) (by omega)
  have HTU : Hid (∀ w', Below w.heap.size w w' → Calls Tryz.prog 8 #[matv r r (.slice a l cap)] w' (GivesMO w' r r (turnZ r r xs) 1048576)) := fun w' h => rturn12 (MA.out.now h) (by omega)
  have HDA : Hid (∀ w', Below w.heap.size w w' → Calls Tryz.prog 9 #[matv r r (.slice a l cap), .int .u64 (p : Int)] w' (Det12 w' (detN p r xs) 0)) := fun w' h => det12 hp (MA.out.now h) (by omega)
  have HDB : Hid (∀ w', Below w.heap.size w w' → Calls Tryz.prog 9 #[matv r r (.slice a' l cap'), .int .u64 (p : Int)] w' (Det12 w' (detN p r ys) 0)) := fun w' h => det12 hp (MU.out.now h) (by omega)
  have HPR := hid hp
  obtain ⟨X, hX⟩ : ∃ X, detN p r xs = X := ⟨_, rfl⟩
  obtain ⟨Y, hY⟩ : ∃ Y, detN p r ys = Y := ⟨_, rfl⟩
  rw [hX] at HDA DM DT rx0 rx1 hd0
  rw [hY] at HDB DM ry0 ry1
  have hxy : 0 ≤ X * Y := Int.mul_nonneg rx0 ry0
  have hxy2 : X * Y ≤ 2147483647 * 2147483647 := Int.mul_le_mul (by omega) (by omega) ry0 (by omega)
  obtain ⟨Z, hZ⟩ : ∃ Z, X * Y = Z := ⟨_, rfl⟩
  have wz : IntKind.u64.wrap (X * Y) = Z := by rw [wrap_isU (by omega) (by omega), hZ]
  have wz2 := wz
  rw [IntKind.wrap_u64] at wz2
  rw [hZ] at DM hxy
  have tz : Z.tmod (p : Int) = Z % (p : Int) := tmodE hxy
  obtain ⟨Z2, hZ2⟩ : ∃ Z2, Z % (p : Int) = Z2 := ⟨_, rfl⟩
  rw [hZ2] at DM tz
  have q1 : ((r : Int) != (r : Int)) = false := by simp
  clear b0 hW ha hu hpr hp hxl hyl hl SNA hX hY hZ hZ2
  have HD0 := hid hd0
  clear hd0
  go_enter Tryz.func3, Tryz.ntmps3
  go_wp2_with fail
  rw [EW.out]
  refine HW.out.mono ?_
  rintro e w1 ⟨rfl, b1⟩
  replace PA := hid (PA.out.step b1)
  replace PU := hid (PU.out.step b1)
  have G := hid (below_step G0.out b1)
  clear HW EW b1 G0
  have x0 := PA.out.at (i := 0) rfl
  have x1 := PA.out.at (i := 1) rfl
  have x2 := PA.out.at (i := 2) rfl
  have y0 := PU.out.at (i := 0) rfl
  have y1 := PU.out.at (i := 1) rfl
  have y2 := PU.out.at (i := 2) rfl
  go_wp2_with fail
  refine (HSA.out w1).mono ?_
  rintro e w2 ⟨rfl, b⟩
  replace PA := hid (PA.out.step b)
  replace PU := hid (PU.out.step b)
  replace G := hid (below_step G.out b)
  clear b
  clear x0 x1 x2 y0 y1 y2
  have x0 := PA.out.at (i := 0) rfl
  have x1 := PA.out.at (i := 1) rfl
  have x2 := PA.out.at (i := 2) rfl
  have y0 := PU.out.at (i := 0) rfl
  have y1 := PU.out.at (i := 1) rfl
  have y2 := PU.out.at (i := 2) rfl
  go_wp2_with fail
  refine (HSU.out w2).mono ?_
  rintro e w3 ⟨rfl, b⟩
  replace PA := hid (PA.out.step b)
  replace PU := hid (PU.out.step b)
  replace G := hid (below_step G.out b)
  clear b
  clear x0 x1 x2 y0 y1 y2
  have x0 := PA.out.at (i := 0) rfl
  have x1 := PA.out.at (i := 1) rfl
  have x2 := PA.out.at (i := 2) rfl
  have y0 := PU.out.at (i := 0) rfl
  have y1 := PU.out.at (i := 1) rfl
  have y2 := PU.out.at (i := 2) rfl
  go_wp2_with fail
  refine (HLP.out w3).mono ?_
  rintro e w4 ⟨rfl, rfl⟩
  go_wp2_with fail
  refine (HMU.out _ G.out).mono ?_
  rintro e w5 ⟨v_, rfl, hm, b⟩
  obtain ⟨a_ab, q_ab, rfl, -, -⟩ := hm.mx.form
  rw [HL.out] at hm ⊢
  obtain ⟨V5, hV⟩ : ∃ V, w5.alloc (matO r r (.slice a_ab l q_ab)) = V := ⟨_, rfl⟩
  obtain ⟨bV, szV⟩ := alo12 w5 (matO r r (.slice a_ab l q_ab))
  rw [hV] at bV szV
  have b2 := below_step b bV
  replace G := hid (below_step G.out b2)
  replace PA := hid (PA.out.step b2)
  replace PU := hid (PU.out.step b2)
  have Pab : Hid (Cel V5 w5.heap.size 24 (matc r r (.slice a_ab l q_ab))) := by unfold Hid; rw [← hV]; exact Cel.new _ _ _
  have Mab := hid (hm.now bV)
  have EV := hid hV
  clear x0 x1 x2 y0 y1 y2 hm b bV szV b2 HMU hV HSA HSU HLP q1
  have x0 := PA.out.at (i := 0) rfl
  have x1 := PA.out.at (i := 1) rfl
  have x2 := PA.out.at (i := 2) rfl
  rw [← EV.out] at x0 x1 x2
  go_wp2_with fail
  rw [EV.out]
  clear EV x0 x1 x2
  refine (HTU.out _ G.out).mono ?_
  rintro e w6 ⟨v_, rfl, hm, b⟩
  obtain ⟨a_t, q_t, rfl, -, -⟩ := hm.mx.form
  rw [HL.out] at hm ⊢
  obtain ⟨V6, hV⟩ : ∃ V, w6.alloc (matO r r (.slice a_t l q_t)) = V := ⟨_, rfl⟩
  obtain ⟨bV, szV⟩ := alo12 w6 (matO r r (.slice a_t l q_t))
  rw [hV] at bV szV
  have b2 := below_step b bV
  replace G := hid (below_step G.out b2)
  replace PA := hid (PA.out.step b2)
  replace PU := hid (PU.out.step b2)
  replace Pab := hid (Pab.out.step b2)
  have Pt : Hid (Cel V6 w6.heap.size 24 (matc r r (.slice a_t l q_t))) := by unfold Hid; rw [← hV]; exact Cel.new _ _ _
  replace Mab := hid ((Mab.out.now b).now bV)
  have Mt := hid (hm.now bV)
  have EV := hid hV
  clear hm b bV szV b2 HTU hV
  have x0 := PA.out.at (i := 0) rfl
  have x1 := PA.out.at (i := 1) rfl
  have x2 := PA.out.at (i := 2) rfl
  rw [← EV.out] at x0 x1 x2
  go_wp2_with fail
  rw [EV.out]
  clear EV x0 x1 x2
  refine (HDA.out _ G.out).mono ?_
  rintro e w7 ⟨rfl, b⟩
  replace PA := hid (PA.out.step b)
  replace PU := hid (PU.out.step b)
  replace Pab := hid (Pab.out.step b)
  replace Pt := hid (Pt.out.step b)
  replace Mab := hid (Mab.out.now b)
  replace Mt := hid (Mt.out.now b)
  replace G := hid (below_step G.out b)
  clear b
  have x0 := PU.out.at (i := 0) rfl
  have x1 := PU.out.at (i := 1) rfl
  have x2 := PU.out.at (i := 2) rfl
  go_wp2_with fail
  refine (HDB.out _ G.out).mono ?_
  rintro e w8 ⟨rfl, b⟩
  replace PA := hid (PA.out.step b)
  replace PU := hid (PU.out.step b)
  replace Pab := hid (Pab.out.step b)
  replace Pt := hid (Pt.out.step b)
  replace Mab := hid (Mab.out.now b)
  replace Mt := hid (Mt.out.now b)
  replace G := hid (below_step G.out b)
  clear b
  clear x0 x1 x2
  have x0 := Pab.out.at (i := 0) rfl
  have x1 := Pab.out.at (i := 1) rfl
  have x2 := Pab.out.at (i := 2) rfl
  go_wp2_with fail
  refine (det12 HPR.out Mab.out.mx (by omega)).mono ?_
  rintro e w9 ⟨rfl, b⟩
  replace PA := hid (PA.out.step b)
  replace PU := hid (PU.out.step b)
  replace Pab := hid (Pab.out.step b)
  replace Pt := hid (Pt.out.step b)
  replace Mt := hid (Mt.out.now b)
  rw [DM.out]
  replace G := hid (below_step G.out b)
  clear b
  clear x0 x1 x2 Mab Pab
  have x0 := Pt.out.at (i := 0) rfl
  have x1 := Pt.out.at (i := 1) rfl
  have x2 := Pt.out.at (i := 2) rfl
  go_wp2_with fail
  refine (det12 HPR.out Mt.out.mx (by omega)).mono ?_
  rintro e w10 ⟨rfl, b⟩
  replace PA := hid (PA.out.step b)
  replace PU := hid (PU.out.step b)
  replace Pt := hid (Pt.out.step b)
  rw [DT.out]
  replace G := hid (below_step G.out b)
  clear b
  clear x0 x1 x2 Mt Pt HDA HDB
  have q0 : ((0 : Int) != 0) = false := rfl
  have c1 : ¬ (p : Int) ≤ X := by omega
  have c2 : (Z2 != Z2) = false := by simp
  have c3 : (X != X) = false := by simp
  have x0 := PA.out.at (i := 0) rfl
  have x1 := PA.out.at (i := 1) rfl
  have x2 := PA.out.at (i := 2) rfl
  go_wp2_with fail
  refine (runit12 hr).mono ?_
  rintro e w11 ⟨v_, rfl, hm, b⟩
  obtain ⟨a_u, q_u, rfl, -, -⟩ := hm.mx.form
  rw [HL.out] at hm ⊢
  obtain ⟨V11, hV⟩ : ∃ V, w11.alloc (matO r r (.slice a_u l q_u)) = V := ⟨_, rfl⟩
  obtain ⟨bV, szV⟩ := alo12 w11 (matO r r (.slice a_u l q_u))
  rw [hV] at bV szV
  have b2 := below_step b bV
  replace G := hid (below_step G.out b2)
  replace PA := hid (PA.out.step b2)
  replace PU := hid (PU.out.step b2)
  have Pu : Hid (Cel V11 w11.heap.size 24 (matc r r (.slice a_u l q_u))) := by unfold Hid; rw [← hV]; exact Cel.new _ _ _
  have Mu := hid (hm.now bV)
  have EV := hid hV
  clear hm b bV szV b2 hV x0 x1 x2 wz wz2 tz c1 c2 c3
  have x0 := Pu.out.at (i := 0) rfl
  have x1 := Pu.out.at (i := 1) rfl
  have x2 := Pu.out.at (i := 2) rfl
  rw [← EV.out] at x0 x1 x2
  go_wp2_with fail
  rw [EV.out]
  clear EV x0 x1 x2
  refine (det12 HPR.out Mu.out.mx (by omega)).mono ?_
  rintro e w12 ⟨rfl, b⟩
  replace PA := hid (PA.out.step b)
  replace PU := hid (PU.out.step b)
  replace Pu := hid (Pu.out.step b)
  replace Mu := hid (Mu.out.now b)
  rw [DU.out]
  replace G := hid (below_step G.out b)
  clear b
  have x0 := PA.out.at (i := 0) rfl
  have x1 := PA.out.at (i := 1) rfl
  have x2 := PA.out.at (i := 2) rfl
  go_wp2_with fail
  refine (inverse12_no HPR.out (MA.out.now G.out) (by omega) HFU.out).mono ?_
  rintro e w13 ⟨rfl, b⟩
  obtain ⟨V, hV⟩ : ∃ V, w13.alloc mbox = V := ⟨_, rfl⟩
  obtain ⟨bV, szV⟩ := alo12 w13 mbox
  rw [hV] at bV szV
  have Pv := hid (mbox_new hV)
  replace G := hid (below_step G.out (below_step b bV))
  have HAL := hid (alikeMats12_yes (w := V) (va := matv 0 0 (.slice none 0 0)) (vb := matv 0 0 (.slice none 0 0)) (r := 0) (c := 0) (k := 0) (l := 0) (zs := []) (ys := []) ⟨_, [], rfl, Prs.nil _ _, ⟨rfl, fun j p z h => by simp at h⟩, rfl, by omega, by omega⟩ ⟨_, [], rfl, Prs.nil _ _, ⟨rfl, fun j p z h => by simp at h⟩, rfl, by omega, by omega⟩ rfl)
  have z0 := Pv.out.at (i := 0) rfl
  have z1 := Pv.out.at (i := 1) rfl
  have z2 := Pv.out.at (i := 2) rfl
  rw [← hV] at z0 z1 z2
  have EV := hid hV
  have c4 : ((1 : Int) != 1) = false := rfl
  have hd0 := HD0.out
  subst hd0
  clear x0 x1 x2 b bV szV hV PA PU Pu Mu
  go_wp2_with fail
  rw [EV.out]
  refine HAL.out.mono ?_
  rintro e w14 ⟨rfl, b⟩
  replace G := hid (below_step G.out b)
  clear b EV z0 z1 z2 HAL
  go_wp2
  go_ret
  exact ⟨rfl, G.out⟩

set_option maxHeartbeats 6400000 in
set_option maxRecDepth 100000 in
theorem modpDets_some {w : World} {va vu : Value} {r p : Nat} {xs ys : List Int} (hp : gdB p = true) (ha : Mx w va r r xs 1048576) (hu : Mx w vu r r ys 1048576) (hd0 : detN p r xs ≠ 0) :
    Calls Tryz.prog 3 #[va, vu, .int .u64 (p : Int)] w fun e w' => e = .returned (.bool true) ∧ Below w.heap.size w w' := by
  obtain ⟨hpr, hp2⟩ := gd_parts hp
  have hp1 := hpr.1
  have MA := hid ha
  have MU := hid hu
  have hxl : xs.length = r * r := by obtain ⟨_, _, _, _, _, q, _⟩ := ha; exact q
  have hyl : ys.length = r * r := by obtain ⟨_, _, _, _, _, q, _⟩ := hu; exact q
  obtain ⟨a, cap, rfl, hr, -⟩ := ha.form
  obtain ⟨a', cap', rfl, -, -⟩ := hu.form
  have SNA : Snd (r : Int) (r : Int) (r * r) := ⟨by omega, by omega, by omega, by omega, by simp⟩
  have hb1 : r * r ≤ 64 * 64 := Nat.mul_le_mul hr hr
  haveI : NeZero p := ⟨by omega⟩
  have DM := hid (detN_mul hpr hxl hyl)
  have DT := hid (detN_turn hpr hxl)
  have DU := hid (detN_unit (r := r) hpr)
  obtain ⟨rx0, rx1⟩ := detN_range hpr hxl
  obtain ⟨ry0, ry1⟩ := detN_range hpr hyl
  have HFU : Hid (¬ wkR p r r xs < r) := fun q => hd0 ((full_iff hpr hxl).1 q)
  have DZ := hid (dets_zero hpr hxl HFU.out)
  have HIR : Hid (Res p (invL p r xs).flatten) := flatten_res (cornL_res (wk_ok (p := p) (c := r) (r := r) hp1 hxl).res)
  obtain ⟨l, hl⟩ : ∃ l, r * r = l := ⟨_, rfl⟩
  have HL := hid hl
  rw [hl] at MA MU hb1 SNA ⊢
  have HSA : Hid (∀ w', Calls Tryz.prog 5 #[mrV (r : Int) (r : Int) a l cap] w' fun e w'' => e = .returned (.bool true) ∧ Below w'.heap.size w' w'') := fun w' => soundB (s := true) (by omega) ⟨fun _ => SNA, fun _ => rfl⟩
  have HSU : Hid (∀ w', Calls Tryz.prog 5 #[mrV (r : Int) (r : Int) a' l cap'] w' fun e w'' => e = .returned (.bool true) ∧ Below w'.heap.size w' w'') := fun w' => soundB (s := true) (by omega) ⟨fun _ => SNA, fun _ => rfl⟩
  have HSK : Hid (∀ w' a cap, Calls Tryz.prog 5 #[mrV (r : Int) (r : Int) a l cap] w' fun e w'' => e = .returned (.bool true) ∧ Below w'.heap.size w' w'') := fun w' a cap => soundB (s := true) (by omega) ⟨fun _ => SNA, fun _ => rfl⟩
  have HLP : Hid (∀ w', Calls Tryz.prog 6 #[.int .u64 (p : Int)] w' fun e w'' => e = .returned (.bool true) ∧ w'' = w') := fun w' => by have := lawPrimeB (w := w') (p := p); rw [hp] at this; exact this
  obtain ⟨W0, hW⟩ : ∃ W0, (w.alloc (mrO (r : Int) (r : Int) a l cap)).alloc (mrO (r : Int) (r : Int) a' l cap') = W0 := ⟨_, rfl⟩
  have b0 : Below w.heap.size w W0 := by rw [← hW]; exact ((Below.refl _ _).alloc (Nat.le_refl _) _).alloc (by simp) _
  have PA : Hid (Cel W0 w.heap.size 24 (mrC (r : Int) (r : Int) a l cap)) := by unfold Hid; rw [← hW]; exact (Cel.new w _ _).step (alo12 _ _).1
  have PU : Hid (Cel W0 (w.heap.size + 1) 24 (mrC (r : Int) (r : Int) a' l cap')) := by
    unfold Hid; rw [← hW]
    have := Cel.new (w.alloc (mrO (r : Int) (r : Int) a l cap)) 24 (mrC (r : Int) (r : Int) a' l cap')
    simpa using this
  have HW := hid (wakes12 W0)
  have G0 := hid b0
  have EW := hid hW
  have HMU : Hid (∀ w', Below w.heap.size w w' → Calls Tryz.prog 7 #[matv r r (.slice a l cap), matv r r (.slice a' l cap')] w' (GivesMO w' r r (mulL r r r xs ys) 2097216)) := fun w' h => rmul12 (MA.out.now h) (MU.out.now h) (by omega)
  have HTU : Hid (∀ w', Below w.heap.size w w' → Calls Tryz.prog 8 #[matv r r (.slice a l cap)] w' (GivesMO w' r r (turnZ r r xs) 1048576)) := fun w' h => rturn12 (MA.out.now h) (by omega)
  have HDA : Hid (∀ w', Below w.heap.size w w' → Calls Tryz.prog 9 #[matv r r (.slice a l cap), .int .u64 (p : Int)] w' (Det12 w' (detN p r xs) 0)) := fun w' h => det12 hp (MA.out.now h) (by omega)
  have HDB : Hid (∀ w', Below w.heap.size w w' → Calls Tryz.prog 9 #[matv r r (.slice a' l cap'), .int .u64 (p : Int)] w' (Det12 w' (detN p r ys) 0)) := fun w' h => det12 hp (MU.out.now h) (by omega)
  have HPR := hid hp
  obtain ⟨X, hX⟩ : ∃ X, detN p r xs = X := ⟨_, rfl⟩
  obtain ⟨Y, hY⟩ : ∃ Y, detN p r ys = Y := ⟨_, rfl⟩
  rw [hX] at HDA DM DT rx0 rx1 hd0
  rw [hY] at HDB DM ry0 ry1
  have hxy : 0 ≤ X * Y := Int.mul_nonneg rx0 ry0
  have hxy2 : X * Y ≤ 2147483647 * 2147483647 := Int.mul_le_mul (by omega) (by omega) ry0 (by omega)
  obtain ⟨Z, hZ⟩ : ∃ Z, X * Y = Z := ⟨_, rfl⟩
  have wz : IntKind.u64.wrap (X * Y) = Z := by rw [wrap_isU (by omega) (by omega), hZ]
  have wz2 := wz
  rw [IntKind.wrap_u64] at wz2
  rw [hZ] at DM hxy
  have tz : Z.tmod (p : Int) = Z % (p : Int) := tmodE hxy
  obtain ⟨Z2, hZ2⟩ : ∃ Z2, Z % (p : Int) = Z2 := ⟨_, rfl⟩
  rw [hZ2] at DM tz
  have q1 : ((r : Int) != (r : Int)) = false := by simp
  clear b0 hW ha hu hpr hp hxl hyl hl SNA hX hY hZ hZ2
  go_enter Tryz.func3, Tryz.ntmps3
  go_wp2_with fail
  rw [EW.out]
  refine HW.out.mono ?_
  rintro e w1 ⟨rfl, b1⟩
  replace PA := hid (PA.out.step b1)
  replace PU := hid (PU.out.step b1)
  have G := hid (below_step G0.out b1)
  clear HW EW b1 G0
  have x0 := PA.out.at (i := 0) rfl
  have x1 := PA.out.at (i := 1) rfl
  have x2 := PA.out.at (i := 2) rfl
  have y0 := PU.out.at (i := 0) rfl
  have y1 := PU.out.at (i := 1) rfl
  have y2 := PU.out.at (i := 2) rfl
  go_wp2_with fail
  refine (HSA.out w1).mono ?_
  rintro e w2 ⟨rfl, b⟩
  replace PA := hid (PA.out.step b)
  replace PU := hid (PU.out.step b)
  replace G := hid (below_step G.out b)
  clear b
  clear x0 x1 x2 y0 y1 y2
  have x0 := PA.out.at (i := 0) rfl
  have x1 := PA.out.at (i := 1) rfl
  have x2 := PA.out.at (i := 2) rfl
  have y0 := PU.out.at (i := 0) rfl
  have y1 := PU.out.at (i := 1) rfl
  have y2 := PU.out.at (i := 2) rfl
  go_wp2_with fail
  refine (HSU.out w2).mono ?_
  rintro e w3 ⟨rfl, b⟩
  replace PA := hid (PA.out.step b)
  replace PU := hid (PU.out.step b)
  replace G := hid (below_step G.out b)
  clear b
  clear x0 x1 x2 y0 y1 y2
  have x0 := PA.out.at (i := 0) rfl
  have x1 := PA.out.at (i := 1) rfl
  have x2 := PA.out.at (i := 2) rfl
  have y0 := PU.out.at (i := 0) rfl
  have y1 := PU.out.at (i := 1) rfl
  have y2 := PU.out.at (i := 2) rfl
  go_wp2_with fail
  refine (HLP.out w3).mono ?_
  rintro e w4 ⟨rfl, rfl⟩
  go_wp2_with fail
  refine (HMU.out _ G.out).mono ?_
  rintro e w5 ⟨v_, rfl, hm, b⟩
  obtain ⟨a_ab, q_ab, rfl, -, -⟩ := hm.mx.form
  rw [HL.out] at hm ⊢
  obtain ⟨V5, hV⟩ : ∃ V, w5.alloc (matO r r (.slice a_ab l q_ab)) = V := ⟨_, rfl⟩
  obtain ⟨bV, szV⟩ := alo12 w5 (matO r r (.slice a_ab l q_ab))
  rw [hV] at bV szV
  have b2 := below_step b bV
  replace G := hid (below_step G.out b2)
  replace PA := hid (PA.out.step b2)
  replace PU := hid (PU.out.step b2)
  have Pab : Hid (Cel V5 w5.heap.size 24 (matc r r (.slice a_ab l q_ab))) := by unfold Hid; rw [← hV]; exact Cel.new _ _ _
  have Mab := hid (hm.now bV)
  have EV := hid hV
  clear x0 x1 x2 y0 y1 y2 hm b bV szV b2 HMU hV HSA HSU HLP q1
  have x0 := PA.out.at (i := 0) rfl
  have x1 := PA.out.at (i := 1) rfl
  have x2 := PA.out.at (i := 2) rfl
  rw [← EV.out] at x0 x1 x2
  go_wp2_with fail
  rw [EV.out]
  clear EV x0 x1 x2
  refine (HTU.out _ G.out).mono ?_
  rintro e w6 ⟨v_, rfl, hm, b⟩
  obtain ⟨a_t, q_t, rfl, -, -⟩ := hm.mx.form
  rw [HL.out] at hm ⊢
  obtain ⟨V6, hV⟩ : ∃ V, w6.alloc (matO r r (.slice a_t l q_t)) = V := ⟨_, rfl⟩
  obtain ⟨bV, szV⟩ := alo12 w6 (matO r r (.slice a_t l q_t))
  rw [hV] at bV szV
  have b2 := below_step b bV
  replace G := hid (below_step G.out b2)
  replace PA := hid (PA.out.step b2)
  replace PU := hid (PU.out.step b2)
  replace Pab := hid (Pab.out.step b2)
  have Pt : Hid (Cel V6 w6.heap.size 24 (matc r r (.slice a_t l q_t))) := by unfold Hid; rw [← hV]; exact Cel.new _ _ _
  replace Mab := hid ((Mab.out.now b).now bV)
  have Mt := hid (hm.now bV)
  have EV := hid hV
  clear hm b bV szV b2 HTU hV
  have x0 := PA.out.at (i := 0) rfl
  have x1 := PA.out.at (i := 1) rfl
  have x2 := PA.out.at (i := 2) rfl
  rw [← EV.out] at x0 x1 x2
  go_wp2_with fail
  rw [EV.out]
  clear EV x0 x1 x2
  refine (HDA.out _ G.out).mono ?_
  rintro e w7 ⟨rfl, b⟩
  replace PA := hid (PA.out.step b)
  replace PU := hid (PU.out.step b)
  replace Pab := hid (Pab.out.step b)
  replace Pt := hid (Pt.out.step b)
  replace Mab := hid (Mab.out.now b)
  replace Mt := hid (Mt.out.now b)
  replace G := hid (below_step G.out b)
  clear b
  have x0 := PU.out.at (i := 0) rfl
  have x1 := PU.out.at (i := 1) rfl
  have x2 := PU.out.at (i := 2) rfl
  go_wp2_with fail
  refine (HDB.out _ G.out).mono ?_
  rintro e w8 ⟨rfl, b⟩
  replace PA := hid (PA.out.step b)
  replace PU := hid (PU.out.step b)
  replace Pab := hid (Pab.out.step b)
  replace Pt := hid (Pt.out.step b)
  replace Mab := hid (Mab.out.now b)
  replace Mt := hid (Mt.out.now b)
  replace G := hid (below_step G.out b)
  clear b
  clear x0 x1 x2
  have x0 := Pab.out.at (i := 0) rfl
  have x1 := Pab.out.at (i := 1) rfl
  have x2 := Pab.out.at (i := 2) rfl
  go_wp2_with fail
  refine (det12 HPR.out Mab.out.mx (by omega)).mono ?_
  rintro e w9 ⟨rfl, b⟩
  replace PA := hid (PA.out.step b)
  replace PU := hid (PU.out.step b)
  replace Pab := hid (Pab.out.step b)
  replace Pt := hid (Pt.out.step b)
  replace Mt := hid (Mt.out.now b)
  rw [DM.out]
  replace G := hid (below_step G.out b)
  clear b
  clear x0 x1 x2 Mab Pab
  have x0 := Pt.out.at (i := 0) rfl
  have x1 := Pt.out.at (i := 1) rfl
  have x2 := Pt.out.at (i := 2) rfl
  go_wp2_with fail
  refine (det12 HPR.out Mt.out.mx (by omega)).mono ?_
  rintro e w10 ⟨rfl, b⟩
  replace PA := hid (PA.out.step b)
  replace PU := hid (PU.out.step b)
  replace Pt := hid (Pt.out.step b)
  rw [DT.out]
  replace G := hid (below_step G.out b)
  clear b
  clear x0 x1 x2 Mt Pt HDA HDB
  have q0 : ((0 : Int) != 0) = false := rfl
  have c1 : ¬ (p : Int) ≤ X := by omega
  have c2 : (Z2 != Z2) = false := by simp
  have c3 : (X != X) = false := by simp
  have x0 := PA.out.at (i := 0) rfl
  have x1 := PA.out.at (i := 1) rfl
  have x2 := PA.out.at (i := 2) rfl
  go_wp2_with fail
  refine (runit12 hr).mono ?_
  rintro e w11 ⟨v_, rfl, hm, b⟩
  obtain ⟨a_u, q_u, rfl, -, -⟩ := hm.mx.form
  rw [HL.out] at hm ⊢
  obtain ⟨V11, hV⟩ : ∃ V, w11.alloc (matO r r (.slice a_u l q_u)) = V := ⟨_, rfl⟩
  obtain ⟨bV, szV⟩ := alo12 w11 (matO r r (.slice a_u l q_u))
  rw [hV] at bV szV
  have b2 := below_step b bV
  replace G := hid (below_step G.out b2)
  replace PA := hid (PA.out.step b2)
  replace PU := hid (PU.out.step b2)
  have Pu : Hid (Cel V11 w11.heap.size 24 (matc r r (.slice a_u l q_u))) := by unfold Hid; rw [← hV]; exact Cel.new _ _ _
  have Mu := hid (hm.now bV)
  have EV := hid hV
  clear hm b bV szV b2 hV x0 x1 x2 wz wz2 tz c1 c2 c3
  have x0 := Pu.out.at (i := 0) rfl
  have x1 := Pu.out.at (i := 1) rfl
  have x2 := Pu.out.at (i := 2) rfl
  rw [← EV.out] at x0 x1 x2
  go_wp2_with fail
  rw [EV.out]
  clear EV x0 x1 x2
  refine (det12 HPR.out Mu.out.mx (by omega)).mono ?_
  rintro e w12 ⟨rfl, b⟩
  replace PA := hid (PA.out.step b)
  replace PU := hid (PU.out.step b)
  replace Pu := hid (Pu.out.step b)
  replace Mu := hid (Mu.out.now b)
  rw [DU.out]
  replace G := hid (below_step G.out b)
  clear b
  have x0 := PA.out.at (i := 0) rfl
  have x1 := PA.out.at (i := 1) rfl
  have x2 := PA.out.at (i := 2) rfl
  go_wp2_with fail
  refine (inverse12_yes HPR.out (MA.out.now G.out) (by omega) HFU.out).mono ?_
  rintro e w13 ⟨v_, rfl, hm, b⟩
  obtain ⟨a_v, q_v, rfl, -, -⟩ := hm.mx.form
  rw [HL.out] at hm ⊢
  obtain ⟨V13, hV⟩ : ∃ V, w13.alloc (matO r r (.slice a_v l q_v)) = V := ⟨_, rfl⟩
  obtain ⟨bV, szV⟩ := alo12 w13 (matO r r (.slice a_v l q_v))
  rw [hV] at bV szV
  have b2 := below_step b bV
  replace G := hid (below_step G.out b2)
  replace PA := hid (PA.out.step b2)
  replace PU := hid (PU.out.step b2)
  replace Pu := hid (Pu.out.step b2)
  have Pv : Hid (Cel V13 w13.heap.size 24 (matc r r (.slice a_v l q_v))) := by unfold Hid; rw [← hV]; exact Cel.new _ _ _
  replace Mu := hid ((Mu.out.now b).now bV)
  have Mv := hid (hm.now bV)
  have EV := hid hV
  have c4 : ((1 : Int) != 1) = false := rfl
  have c5 : (X == 0) = false := by simpa using hd0
  clear hm b bV szV b2 hV x0 x1 x2
  have x0 := Pv.out.at (i := 0) rfl
  have x1 := Pv.out.at (i := 1) rfl
  have x2 := Pv.out.at (i := 2) rfl
  rw [← EV.out] at x0 x1 x2
  go_wp2_with fail
  rw [EV.out]
  clear EV x0 x1 x2
  refine (HSK.out _ _ _).mono ?_
  rintro e w14 ⟨rfl, b⟩
  replace G := hid (below_step G.out b)
  replace PA := hid (PA.out.step b)
  replace PU := hid (PU.out.step b)
  replace Pu := hid (Pu.out.step b)
  replace Pv := hid (Pv.out.step b)
  replace Mu := hid (Mu.out.now b)
  replace Mv := hid (Mv.out.now b)
  clear b c4 c5
  have q1 : ((r : Int) != (r : Int)) = false := by simp
  have x0 := Pv.out.at (i := 0) rfl
  have x1 := Pv.out.at (i := 1) rfl
  have x2 := Pv.out.at (i := 2) rfl
  have y0 := PA.out.at (i := 0) rfl
  obtain ⟨at9, ps9, e9, e10, e11, e12, -⟩ := Mv.out
  simp only [Value.agg.injEq, Array.mk.injEq, List.cons.injEq, and_true] at e9
  rw [← e9.2.2] at e10
  have HLE := hid (least12_yes (p := p) e10 e11 HIR.out hp2)
  clear e9 e10 e11 e12
  go_wp2_with fail
  refine HLE.out.mono ?_
  rintro e w15 ⟨rfl, rfl⟩
  clear x0 x1 x2 y0 HLE
  have x0 := PA.out.at (i := 0) rfl
  have x1 := PA.out.at (i := 1) rfl
  have x2 := PA.out.at (i := 2) rfl
  have y0 := Pv.out.at (i := 0) rfl
  have y1 := Pv.out.at (i := 1) rfl
  have y2 := Pv.out.at (i := 2) rfl
  go_wp2_with fail
  refine (rmul12 (MA.out.now G.out) Mv.out.mx (by omega)).mono ?_
  rintro e w16 ⟨v_, rfl, hm, b⟩
  obtain ⟨a_q, q_q, rfl, -, -⟩ := hm.mx.form
  rw [HL.out] at hm ⊢
  obtain ⟨V16, hV⟩ : ∃ V, w16.alloc (matO r r (.slice a_q l q_q)) = V := ⟨_, rfl⟩
  obtain ⟨bV, szV⟩ := alo12 w16 (matO r r (.slice a_q l q_q))
  rw [hV] at bV szV
  have b2 := below_step b bV
  replace G := hid (below_step G.out b2)
  replace PA := hid (PA.out.step b2)
  replace PU := hid (PU.out.step b2)
  replace Pu := hid (Pu.out.step b2)
  replace Pv := hid (Pv.out.step b2)
  have Pq : Hid (Cel V16 w16.heap.size 24 (matc r r (.slice a_q l q_q))) := by unfold Hid; rw [← hV]; exact Cel.new _ _ _
  replace Mu := hid ((Mu.out.now b).now bV)
  replace Mv := hid ((Mv.out.now b).now bV)
  have Mq := hid (hm.now bV)
  have EV := hid hV
  clear hm b bV szV b2 hV x0 x1 x2 y0 y1 y2
  have x0 := PA.out.at (i := 0) rfl
  have x1 := PA.out.at (i := 1) rfl
  have x2 := PA.out.at (i := 2) rfl
  rw [← EV.out] at x0 x1 x2
  have y0 := Pv.out.at (i := 0) rfl
  have y1 := Pv.out.at (i := 1) rfl
  have y2 := Pv.out.at (i := 2) rfl
  rw [← EV.out] at y0 y1 y2
  go_wp2_with fail
  rw [EV.out]
  clear EV x0 x1 x2 y0 y1 y2
  refine (rmul12 Mv.out.mx (MA.out.now G.out) (by omega)).mono ?_
  rintro e w17 ⟨v_, rfl, hm, b⟩
  obtain ⟨a_rr, q_rr, rfl, -, -⟩ := hm.mx.form
  rw [HL.out] at hm ⊢
  obtain ⟨V17, hV⟩ : ∃ V, w17.alloc (matO r r (.slice a_rr l q_rr)) = V := ⟨_, rfl⟩
  obtain ⟨bV, szV⟩ := alo12 w17 (matO r r (.slice a_rr l q_rr))
  rw [hV] at bV szV
  have b2 := below_step b bV
  replace G := hid (below_step G.out b2)
  replace PA := hid (PA.out.step b2)
  replace PU := hid (PU.out.step b2)
  replace Pu := hid (Pu.out.step b2)
  replace Pv := hid (Pv.out.step b2)
  replace Pq := hid (Pq.out.step b2)
  have Prr : Hid (Cel V17 w17.heap.size 24 (matc r r (.slice a_rr l q_rr))) := by unfold Hid; rw [← hV]; exact Cel.new _ _ _
  replace Mu := hid ((Mu.out.now b).now bV)
  replace Mq := hid ((Mq.out.now b).now bV)
  have Mrr := hid (hm.now bV)
  have EV := hid hV
  clear hm b bV szV b2 hV Mv Pv
  have x0 := Pq.out.at (i := 0) rfl
  have x1 := Pq.out.at (i := 1) rfl
  have x2 := Pq.out.at (i := 2) rfl
  rw [← EV.out] at x0 x1 x2
  have y0 := Pu.out.at (i := 0) rfl
  have y1 := Pu.out.at (i := 1) rfl
  have y2 := Pu.out.at (i := 2) rfl
  rw [← EV.out] at y0 y1 y2
  go_wp2_with fail
  rw [EV.out]
  clear EV x0 x1 x2 y0 y1 y2
  refine (rsub12 Mq.out.mx Mu.out.mx (by omega)).mono ?_
  rintro e w18 ⟨v_, rfl, hm, b⟩
  obtain ⟨a_c, q_c, rfl, -, -⟩ := hm.mx.form
  rw [HL.out] at hm ⊢
  obtain ⟨V18, hV⟩ : ∃ V, w18.alloc (matO r r (.slice a_c l q_c)) = V := ⟨_, rfl⟩
  obtain ⟨bV, szV⟩ := alo12 w18 (matO r r (.slice a_c l q_c))
  rw [hV] at bV szV
  have b2 := below_step b bV
  replace G := hid (below_step G.out b2)
  replace PA := hid (PA.out.step b2)
  replace PU := hid (PU.out.step b2)
  replace Pu := hid (Pu.out.step b2)
  replace Pq := hid (Pq.out.step b2)
  replace Prr := hid (Prr.out.step b2)
  have Pcc : Hid (Cel V18 w18.heap.size 24 (matc r r (.slice a_c l q_c))) := by unfold Hid; rw [← hV]; exact Cel.new _ _ _
  replace Mu := hid ((Mu.out.now b).now bV)
  replace Mrr := hid ((Mrr.out.now b).now bV)
  have Mcc := hid (hm.now bV)
  have EV := hid hV
  clear hm b bV szV b2 hV Mq
  have x0 := Prr.out.at (i := 0) rfl
  have x1 := Prr.out.at (i := 1) rfl
  have x2 := Prr.out.at (i := 2) rfl
  rw [← EV.out] at x0 x1 x2
  have y0 := Pu.out.at (i := 0) rfl
  have y1 := Pu.out.at (i := 1) rfl
  have y2 := Pu.out.at (i := 2) rfl
  rw [← EV.out] at y0 y1 y2
  go_wp2_with fail
  rw [EV.out]
  clear EV x0 x1 x2 y0 y1 y2
  refine (rsub12 Mrr.out.mx Mu.out.mx (by omega)).mono ?_
  rintro e w19 ⟨v_, rfl, hm, b⟩
  obtain ⟨a_d, q_d, rfl, -, -⟩ := hm.mx.form
  rw [HL.out] at hm ⊢
  obtain ⟨V19, hV⟩ : ∃ V, w19.alloc (matO r r (.slice a_d l q_d)) = V := ⟨_, rfl⟩
  obtain ⟨bV, szV⟩ := alo12 w19 (matO r r (.slice a_d l q_d))
  rw [hV] at bV szV
  have b2 := below_step b bV
  replace G := hid (below_step G.out b2)
  replace PA := hid (PA.out.step b2)
  replace PU := hid (PU.out.step b2)
  replace Pu := hid (Pu.out.step b2)
  replace Pq := hid (Pq.out.step b2)
  replace Prr := hid (Prr.out.step b2)
  replace Pcc := hid (Pcc.out.step b2)
  have Pd : Hid (Cel V19 w19.heap.size 24 (matc r r (.slice a_d l q_d))) := by unfold Hid; rw [← hV]; exact Cel.new _ _ _
  replace Mcc := hid ((Mcc.out.now b).now bV)
  have Md := hid (hm.now bV)
  have EV := hid hV
  clear hm b bV szV b2 hV Mrr Mu
  rw [HL.out] at DZ
  have Z1 := hid Mcc.out.zl12d
  have HZ1 := hid (zero12_yes (p := p) Z1.out (by omega) (by omega) hp2 DZ.out.1)
  have x0 := Pcc.out.at (i := 0) rfl
  have x1 := Pcc.out.at (i := 1) rfl
  have x2 := Pcc.out.at (i := 2) rfl
  rw [← EV.out] at x0 x1 x2
  go_wp2_with fail
  rw [EV.out]
  refine HZ1.out.mono ?_
  rintro e w20 ⟨rfl, b⟩
  replace G := hid (below_step G.out b)
  replace Md := hid (Md.out.now b)
  replace Pd := hid (Pd.out.step b)
  clear b EV x0 x1 x2 HZ1 Z1 Mcc
  have Z2_ := hid Md.out.zl12d
  have HZ2 := hid (zero12_yes (p := p) Z2_.out (by omega) (by omega) hp2 DZ.out.2)
  have x0 := Pd.out.at (i := 0) rfl
  have x1 := Pd.out.at (i := 1) rfl
  have x2 := Pd.out.at (i := 2) rfl
  go_wp2_with fail
  refine HZ2.out.mono ?_
  rintro e w21 ⟨rfl, b⟩
  replace G := hid (below_step G.out b)
  clear b x0 x1 x2 HZ2 Z2_ Md
  go_wp2
  go_ret
  exact ⟨rfl, G.out⟩

theorem modpDets_any {w : World} {v u : Value} {r c r' c' : Int} {l l' p : Nat} {xs ys : List Int} (h : Raw w v r c l xs) (h' : Raw w u r' c' l' ys) :
    Calls Tryz.prog 3 #[v, u, .int .u64 (p : Int)] w fun e w' => e = .returned (.bool true) ∧ Below w.heap.size w w' := by
  have h0 := h
  have h0' := h'
  obtain ⟨a, cap, ps, rfl, h2, h3, h4, h5⟩ := h
  obtain ⟨a', cap', ps', rfl, h2', h3', h4', h5'⟩ := h'
  by_cases hs : Snd r c l
  · by_cases ht : Snd r' c' l'
    · rcases Bool.eq_false_or_eq_true (gdB p) with q | q
      · by_cases e1 : r = c
        · by_cases e2 : r' = r
          · by_cases e3 : c' = r
            · subst e1
              subst e2
              subst e3
              obtain ⟨R, rfl⟩ : ∃ R : Nat, c' = (R : Int) := ⟨c'.toNat, by have := ht.1; omega⟩
              by_cases hd : detN p R xs = 0
              · exact modpDets_zero q (h0.mx hs) (h0'.mx ht) hd
              · exact modpDets_some q (h0.mx hs) (h0'.mx ht) hd
            · exact modpDets_out5 h5 h5' hs ht q e1 e2 e3
          · exact modpDets_out4 h5 h5' hs ht q e1 e2
        · exact modpDets_out3 h5 h5' hs ht q e1
      · exact modpDets_out2 h5 h5' hs ht q
    · exact modpDets_out1 h5 h5' hs ht
  · exact modpDets_out0 h5 h5' hs
end Go.Proofs.YtiedmlfiboalhaaGreat
