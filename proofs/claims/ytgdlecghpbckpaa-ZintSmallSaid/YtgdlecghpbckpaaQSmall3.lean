/-
  Small3: the walks of ZintSmall where y is -1.
-/
import Derived.Test.YtgdlecghpbckpaaQSmall0
namespace Go.Proofs.Ytgdlecghpbckpaa
open Go.RowKit
set_option linter.unusedVariables false

set_option maxHeartbeats 3200000 in
set_option maxRecDepth 100000 in
theorem zintSmall_oneOver {w : World} {X Y : Int} (hx0 : -9223372036854775808 ≤ X) (hx1 : X ≤ 9223372036854775807) (hy0 : -9223372036854775808 ≤ Y) (hy1 : Y ≤ 9223372036854775807) (hp : Y < 0) (hq : Y = -1) (ho : X < -9223372036854775808 - Y) :
    Calls Try.prog 3 #[.int .i64 X, .int .i64 Y] w fun e w' => e = .returned (.bool true) ∧ Below w.heap.size w w' := by
  obtain rfl : X = (-9223372036854775808) := by omega
  obtain rfl : Y = (-1) := by omega
  have HX0 := hid hx0
  have HX1 := hid hx1
  have HY0 := hid hy0
  have HY1 := hid hy1
  have EC : Hid (∀ w', _) := fun (w' : World) (v u : Value) (k l : Nat) (h : Zi w' v (-9223372036854775808) k) (h' : Zi w' u (-1) l) => cmp_z h h'
  have hC1 : (-9223372036854775808) < (-1) ↔ cmpI (-9223372036854775808) (-1) < 0 := (cmp_sign (-9223372036854775808) (-1)).1.symm
  have hC2 : (!((-9223372036854775808) == (-1)) == (cmpI (-9223372036854775808) (-1) == 0)) = false := by rw [cmp_eq]; cases ((-9223372036854775808) == (-1)) <;> rfl
  generalize cmpI (-9223372036854775808) (-1) = C at *
  have p0 : ((0 : Int) != 0) = false := rfl
  have p1 : ((-9223372036854775808) != (-9223372036854775808)) = false := by simp
  have p2 : ((1 : Int) != 1) = false := rfl
  have p3 : ((0 : Int) == 0) = true := rfl
  have p5 : ((5 : Int) == 0) = false := rfl
  have p6 : ((5 : Int) == 5) = true := rfl
  have p7 : ((0 : Int) == 5) = false := rfl
  have HOV : Hid ((-9223372036854775808) + (-1) < -9223372036854775808 ∨ 9223372036854775807 < (-9223372036854775808) + (-1)) := by unfold Hid; omega
  have HYN : Hid ((-1 : Int) ≠ 0) := by unfold Hid; omega
  have r0 : (-9223372036854775808).tmod (-1) = 0 := tmod_one (-9223372036854775808)
  have q0 : (-9223372036854775808).tdiv (-1) = -(-9223372036854775808) := tdiv_one (-9223372036854775808)
  have R0 := hid r0
  have Q0 := hid q0
  clear r0 q0
  have HQ : Hid (9223372036854775807 < (-9223372036854775808).tdiv (-1)) := by unfold Hid; rw [Q0.out]; omega
  have HKB : Hid (∀ w', Below w.heap.size w w' → True) := fun _ _ => trivial
  have G := hid (Below.refl w.heap.size w)
  go_enter Try.func3, Try.ntmps3
  go_wp2_with fail
  refine (of_z (n := (-9223372036854775808)) HX0.out HX1.out w).mono ?_
  rintro e w1 ⟨r, rfl, m, b⟩
  obtain ⟨nav, xav, aav, cav, rfl, -, -, -, -, -⟩ := id m
  obtain ⟨W1, hW⟩ : ∃ W1, w1.alloc (duo (.bool nav) (.slice aav xav.length cav)) = W1 := ⟨_, rfl⟩
  have kW : Below w1.heap.size w1 W1 := by rw [← hW]; exact (Below.refl _ _).alloc (Nat.le_refl _) _
  have sz1 : W1.heap.size = w1.heap.size + 1 := by rw [← hW]; simp
  have p : Duo W1 w1.heap.size (.bool nav) (.slice aav xav.length cav) := by rw [← hW]; exact Duo.new w1 _ _
  replace b := below_step b kW
  replace G := hid (below_step G.out b)
  have Zav := hid (m.now kW)
  replace HKB : Hid (∀ w', Below W1.heap.size W1 w' → w'.cell? ⟨w1.heap.size, 0, none⟩ = some (.bool nav) ∧ w'.cell? ⟨w1.heap.size, 1, none⟩ = some (.slice aav xav.length cav)) := fun w' h => by
    have p' := p.below h (by omega)
    exact ⟨p'.c0, p'.c1⟩
  obtain ⟨c0, c1⟩ := HKB.out W1 (Below.refl _ _)
  rw [← hW] at c0 c1
  have EW := hid hW
  clear b kW p hW m
  go_wp2_with fail
  rw [EW.out]
  clear EW
  clear c0 c1
  refine (of_z (n := (-1)) HY0.out HY1.out W1).mono ?_
  rintro e w2 ⟨r, rfl, m, b⟩
  obtain ⟨nbv, xbv, abv, cbv, rfl, -, -, -, -, -⟩ := id m
  obtain ⟨W2, hW⟩ : ∃ W2, w2.alloc (duo (.bool nbv) (.slice abv xbv.length cbv)) = W2 := ⟨_, rfl⟩
  have kW : Below w2.heap.size w2 W2 := by rw [← hW]; exact (Below.refl _ _).alloc (Nat.le_refl _) _
  have sz2 : W2.heap.size = w2.heap.size + 1 := by rw [← hW]; simp
  have p : Duo W2 w2.heap.size (.bool nbv) (.slice abv xbv.length cbv) := by rw [← hW]; exact Duo.new w2 _ _
  replace b := below_step b kW
  replace Zav := hid (Zav.out.now b)
  replace G := hid (below_step G.out b)
  have Zbv := hid (m.now kW)
  replace HKB : Hid (∀ w', Below W2.heap.size W2 w' → w'.cell? ⟨w1.heap.size, 0, none⟩ = some (.bool nav) ∧ w'.cell? ⟨w1.heap.size, 1, none⟩ = some (.slice aav xav.length cav) ∧ w'.cell? ⟨w2.heap.size, 0, none⟩ = some (.bool nbv) ∧ w'.cell? ⟨w2.heap.size, 1, none⟩ = some (.slice abv xbv.length cbv)) := fun w' h => by
    obtain ⟨q0, q1⟩ := HKB.out w' (below_step b h)
    have p' := p.below h (by omega)
    exact ⟨q0, q1, p'.c0, p'.c1⟩
  obtain ⟨c0, c1, c2, c3⟩ := HKB.out W2 (Below.refl _ _)
  rw [← hW] at c0 c1 c2 c3
  have EW := hid hW
  clear b kW p hW m
  go_wp2_with fail
  rw [EW.out]
  clear EW
  clear c0 c1 c2 c3
  refine (small_z (Zav.out).zi HX0.out HX1.out).mono ?_
  rintro e w3 ⟨rfl, b⟩
  replace Zav := hid (Zav.out.now b)
  replace Zbv := hid (Zbv.out.now b)
  replace G := hid (below_step G.out b)
  replace HKB : Hid (∀ w', Below w3.heap.size w3 w' → w'.cell? ⟨w1.heap.size, 0, none⟩ = some (.bool nav) ∧ w'.cell? ⟨w1.heap.size, 1, none⟩ = some (.slice aav xav.length cav) ∧ w'.cell? ⟨w2.heap.size, 0, none⟩ = some (.bool nbv) ∧ w'.cell? ⟨w2.heap.size, 1, none⟩ = some (.slice abv xbv.length cbv)) := fun w' h => HKB.out w' (below_step b h)
  clear b
  obtain ⟨c0, c1, c2, c3⟩ := HKB.out w3 (Below.refl _ _)
  go_wp2_with fail
  clear c0 c1 c2 c3
  refine (of_z (n := 7) (by omega) (by omega) w3).mono ?_
  rintro e w4 ⟨r, rfl, m, b⟩
  obtain ⟨n4, t4, a4, q4, rfl, -, -, -, -, -⟩ := id m
  replace Zav := hid (Zav.out.now b)
  replace Zbv := hid (Zbv.out.now b)
  replace G := hid (below_step G.out b)
  have Zsv := hid m
  clear m
  replace HKB : Hid (∀ w', Below w4.heap.size w4 w' → w'.cell? ⟨w1.heap.size, 0, none⟩ = some (.bool nav) ∧ w'.cell? ⟨w1.heap.size, 1, none⟩ = some (.slice aav xav.length cav) ∧ w'.cell? ⟨w2.heap.size, 0, none⟩ = some (.bool nbv) ∧ w'.cell? ⟨w2.heap.size, 1, none⟩ = some (.slice abv xbv.length cbv)) := fun w' h => HKB.out w' (below_step b h)
  clear b
  obtain ⟨c0, c1, c2, c3⟩ := HKB.out w4 (Below.refl _ _)
  go_wp2_with fail
  clear c0 c1 c2 c3
  refine (int_as (sign_z (Zsv.out).zi) (show cmpI 7 0 = 1 from rfl)).mono ?_
  rintro e w5 ⟨rfl, b⟩
  replace Zav := hid (Zav.out.now b)
  replace Zbv := hid (Zbv.out.now b)
  replace Zsv := hid (Zsv.out.now b)
  replace G := hid (below_step G.out b)
  replace HKB : Hid (∀ w', Below w5.heap.size w5 w' → w'.cell? ⟨w1.heap.size, 0, none⟩ = some (.bool nav) ∧ w'.cell? ⟨w1.heap.size, 1, none⟩ = some (.slice aav xav.length cav) ∧ w'.cell? ⟨w2.heap.size, 0, none⟩ = some (.bool nbv) ∧ w'.cell? ⟨w2.heap.size, 1, none⟩ = some (.slice abv xbv.length cbv)) := fun w' h => HKB.out w' (below_step b h)
  clear b
  obtain ⟨c0, c1, c2, c3⟩ := HKB.out w5 (Below.refl _ _)
  clear Zsv
  go_wp2_with fail
  clear c0 c1 c2 c3
  refine (add_z (Zav.out).zi (Zbv.out).zi (by omega) (by omega)).mono ?_
  rintro e w6 ⟨r, rfl, m, b⟩
  obtain ⟨n6, t6, a6, q6, rfl, -, -, -, -, -⟩ := id m
  replace Zav := hid (Zav.out.now b)
  replace Zbv := hid (Zbv.out.now b)
  replace G := hid (below_step G.out b)
  have Zsu := hid m
  clear m
  replace HKB : Hid (∀ w', Below w6.heap.size w6 w' → w'.cell? ⟨w1.heap.size, 0, none⟩ = some (.bool nav) ∧ w'.cell? ⟨w1.heap.size, 1, none⟩ = some (.slice aav xav.length cav) ∧ w'.cell? ⟨w2.heap.size, 0, none⟩ = some (.bool nbv) ∧ w'.cell? ⟨w2.heap.size, 1, none⟩ = some (.slice abv xbv.length cbv)) := fun w' h => HKB.out w' (below_step b h)
  clear b
  obtain ⟨c0, c1, c2, c3⟩ := HKB.out w6 (Below.refl _ _)
  go_wp2_with fail
  clear c0 c1 c2 c3
  refine (small_large (Zsu.out).zi HOV.out).mono ?_
  rintro e w7 ⟨rfl, b⟩
  replace Zav := hid (Zav.out.now b)
  replace Zbv := hid (Zbv.out.now b)
  replace Zsu := hid (Zsu.out.now b)
  replace G := hid (below_step G.out b)
  replace HKB : Hid (∀ w', Below w7.heap.size w7 w' → w'.cell? ⟨w1.heap.size, 0, none⟩ = some (.bool nav) ∧ w'.cell? ⟨w1.heap.size, 1, none⟩ = some (.slice aav xav.length cav) ∧ w'.cell? ⟨w2.heap.size, 0, none⟩ = some (.bool nbv) ∧ w'.cell? ⟨w2.heap.size, 1, none⟩ = some (.slice abv xbv.length cbv)) := fun w' h => HKB.out w' (below_step b h)
  clear b
  obtain ⟨c0, c1, c2, c3⟩ := HKB.out w7 (Below.refl _ _)
  clear Zsu
  go_wp2_with fail
  clear c0 c1 c2 c3
  refine (EC.out _ _ _ _ _ (Zav.out).zi (Zbv.out).zi).mono ?_
  rintro e w8 ⟨rfl, b⟩
  replace Zav := hid (Zav.out.now b)
  replace Zbv := hid (Zbv.out.now b)
  replace G := hid (below_step G.out b)
  replace HKB : Hid (∀ w', Below w8.heap.size w8 w' → w'.cell? ⟨w1.heap.size, 0, none⟩ = some (.bool nav) ∧ w'.cell? ⟨w1.heap.size, 1, none⟩ = some (.slice aav xav.length cav) ∧ w'.cell? ⟨w2.heap.size, 0, none⟩ = some (.bool nbv) ∧ w'.cell? ⟨w2.heap.size, 1, none⟩ = some (.slice abv xbv.length cbv)) := fun w' h => HKB.out w' (below_step b h)
  clear b
  obtain ⟨c0, c1, c2, c3⟩ := HKB.out w8 (Below.refl _ _)
  go_wp2_with fail
  clear c0 c1 c2 c3
  refine (EC.out _ _ _ _ _ (Zav.out).zi (Zbv.out).zi).mono ?_
  rintro e w9 ⟨rfl, b⟩
  replace Zav := hid (Zav.out.now b)
  replace Zbv := hid (Zbv.out.now b)
  replace G := hid (below_step G.out b)
  replace HKB : Hid (∀ w', Below w9.heap.size w9 w' → w'.cell? ⟨w1.heap.size, 0, none⟩ = some (.bool nav) ∧ w'.cell? ⟨w1.heap.size, 1, none⟩ = some (.slice aav xav.length cav) ∧ w'.cell? ⟨w2.heap.size, 0, none⟩ = some (.bool nbv) ∧ w'.cell? ⟨w2.heap.size, 1, none⟩ = some (.slice abv xbv.length cbv)) := fun w' h => HKB.out w' (below_step b h)
  clear b
  obtain ⟨c0, c1, c2, c3⟩ := HKB.out w9 (Below.refl _ _)
  go_wp2_with fail
  clear c0 c1 c2 c3
  refine (trunc_z Zav.out.zi Zbv.out.zi HYN.out (by decide) (by decide)).mono ?_
  rintro e w10 ⟨r0, r1, rfl, m0, m1, b⟩
  obtain ⟨nq, xq, aq, cq, rfl, -, -, -, -, -⟩ := id m0
  obtain ⟨nr, xr, ar, cr, rfl, -, -, -, -, -⟩ := id m1
  obtain ⟨W10, hW⟩ : ∃ W10, (w10.alloc (duo (.bool nq) (.slice aq xq.length cq))).alloc (duo (.bool nr) (.slice ar xr.length cr)) = W10 := ⟨_, rfl⟩
  obtain ⟨kW, sz10⟩ := alloc2 w10 (duo (.bool nq) (.slice aq xq.length cq)) (duo (.bool nr) (.slice ar xr.length cr))
  rw [hW] at kW sz10
  have p0 : Duo W10 (w10.heap.size) (.bool nq) (.slice aq xq.length cq) := by rw [← hW]; exact duo_late (duo_at (by simp)) _
  have p1 : Duo W10 (w10.heap.size + 1) (.bool nr) (.slice ar xr.length cr) := by rw [← hW]; exact duo_at (by simp)
  replace b := below_step b kW
  replace Zav := hid (Zav.out.now b)
  replace Zbv := hid (Zbv.out.now b)
  replace G := hid (below_step G.out b)
  have Zq := hid (m0.now kW)
  have Zr := hid (m1.now kW)
  replace HKB : Hid (∀ w', Below W10.heap.size W10 w' → w'.cell? ⟨w1.heap.size, 0, none⟩ = some (.bool nav) ∧ w'.cell? ⟨w1.heap.size, 1, none⟩ = some (.slice aav xav.length cav) ∧ w'.cell? ⟨w2.heap.size, 0, none⟩ = some (.bool nbv) ∧ w'.cell? ⟨w2.heap.size, 1, none⟩ = some (.slice abv xbv.length cbv) ∧ w'.cell? ⟨w10.heap.size, 0, none⟩ = some (.bool nq) ∧ w'.cell? ⟨w10.heap.size, 1, none⟩ = some (.slice aq xq.length cq) ∧ w'.cell? ⟨w10.heap.size + 1, 0, none⟩ = some (.bool nr) ∧ w'.cell? ⟨w10.heap.size + 1, 1, none⟩ = some (.slice ar xr.length cr)) := fun w' h => by
    obtain ⟨q0, q1, q2, q3⟩ := HKB.out w' (below_step b h)
    exact ⟨q0, q1, q2, q3, (p0.below h (by omega)).c0, (p0.below h (by omega)).c1, (p1.below h (by omega)).c0, (p1.below h (by omega)).c1⟩
  obtain ⟨c0, c1, c2, c3, c4, c5, c6, c7⟩ := HKB.out W10 (Below.refl _ _)
  rw [← hW] at c0 c1 c2 c3 c4 c5 c6 c7
  have EW := hid hW
  clear b kW hW p0 m0 p1 m1
  go_wp2_with fail
  rw [EW.out]
  clear EW
  clear c0 c1 c2 c3 c4 c5 c6 c7
  refine (small_zero (Zr.out).zi R0.out).mono ?_
  rintro e w11 ⟨rfl, b⟩
  replace Zav := hid (Zav.out.now b)
  replace Zbv := hid (Zbv.out.now b)
  replace Zq := hid (Zq.out.now b)
  replace Zr := hid (Zr.out.now b)
  replace G := hid (below_step G.out b)
  replace HKB : Hid (∀ w', Below w11.heap.size w11 w' → w'.cell? ⟨w1.heap.size, 0, none⟩ = some (.bool nav) ∧ w'.cell? ⟨w1.heap.size, 1, none⟩ = some (.slice aav xav.length cav) ∧ w'.cell? ⟨w2.heap.size, 0, none⟩ = some (.bool nbv) ∧ w'.cell? ⟨w2.heap.size, 1, none⟩ = some (.slice abv xbv.length cbv) ∧ w'.cell? ⟨w10.heap.size, 0, none⟩ = some (.bool nq) ∧ w'.cell? ⟨w10.heap.size, 1, none⟩ = some (.slice aq xq.length cq) ∧ w'.cell? ⟨w10.heap.size + 1, 0, none⟩ = some (.bool nr) ∧ w'.cell? ⟨w10.heap.size + 1, 1, none⟩ = some (.slice ar xr.length cr)) := fun w' h => HKB.out w' (below_step b h)
  clear b
  obtain ⟨c0, c1, c2, c3, c4, c5, c6, c7⟩ := HKB.out w11 (Below.refl _ _)
  go_wp2_with fail
  clear c0 c1 c2 c3 c4 c5 c6 c7
  refine (small_large (Zq.out).zi (.inr HQ.out)).mono ?_
  rintro e w12 ⟨rfl, b⟩
  replace Zav := hid (Zav.out.now b)
  replace Zbv := hid (Zbv.out.now b)
  replace Zq := hid (Zq.out.now b)
  replace Zr := hid (Zr.out.now b)
  replace G := hid (below_step G.out b)
  replace HKB : Hid (∀ w', Below w12.heap.size w12 w' → w'.cell? ⟨w1.heap.size, 0, none⟩ = some (.bool nav) ∧ w'.cell? ⟨w1.heap.size, 1, none⟩ = some (.slice aav xav.length cav) ∧ w'.cell? ⟨w2.heap.size, 0, none⟩ = some (.bool nbv) ∧ w'.cell? ⟨w2.heap.size, 1, none⟩ = some (.slice abv xbv.length cbv) ∧ w'.cell? ⟨w10.heap.size, 0, none⟩ = some (.bool nq) ∧ w'.cell? ⟨w10.heap.size, 1, none⟩ = some (.slice aq xq.length cq) ∧ w'.cell? ⟨w10.heap.size + 1, 0, none⟩ = some (.bool nr) ∧ w'.cell? ⟨w10.heap.size + 1, 1, none⟩ = some (.slice ar xr.length cr)) := fun w' h => HKB.out w' (below_step b h)
  clear b
  obtain ⟨c0, c1, c2, c3, c4, c5, c6, c7⟩ := HKB.out w12 (Below.refl _ _)
  go_wp2
  go_ret
  exact ⟨rfl, G.out⟩

set_option maxHeartbeats 3200000 in
set_option maxRecDepth 100000 in
theorem zintSmall_oneFit {w : World} {X Y : Int} (hx0 : -9223372036854775808 ≤ X) (hx1 : X ≤ 9223372036854775807) (hy0 : -9223372036854775808 ≤ Y) (hy1 : Y ≤ 9223372036854775807) (hp : Y < 0) (hq : Y = -1) (ho : ¬ X < -9223372036854775808 - Y) :
    Calls Try.prog 3 #[.int .i64 X, .int .i64 Y] w fun e w' => e = .returned (.bool true) ∧ Below w.heap.size w w' := by
  obtain rfl : Y = (-1) := by omega
  have HX0 := hid hx0
  have HX1 := hid hx1
  have HY0 := hid hy0
  have HY1 := hid hy1
  have EC : Hid (∀ w', _) := fun (w' : World) (v u : Value) (k l : Nat) (h : Zi w' v X k) (h' : Zi w' u (-1) l) => cmp_z h h'
  have hC1 : X < (-1) ↔ cmpI X (-1) < 0 := (cmp_sign X (-1)).1.symm
  have hC2 : (!(X == (-1)) == (cmpI X (-1) == 0)) = false := by rw [cmp_eq]; cases (X == (-1)) <;> rfl
  generalize cmpI X (-1) = C at *
  have p0 : ((0 : Int) != 0) = false := rfl
  have p1 : (X != X) = false := by simp
  have p2 : ((1 : Int) != 1) = false := rfl
  have p3 : ((0 : Int) == 0) = true := rfl
  have p5 : ((5 : Int) == 0) = false := rfl
  have p6 : ((5 : Int) == 5) = true := rfl
  have p7 : ((0 : Int) == 5) = false := rfl
  have HF : Hid (-9223372036854775808 ≤ X + (-1) ∧ X + (-1) ≤ 9223372036854775807) := by unfold Hid; omega
  have HYN : Hid ((-1 : Int) ≠ 0) := by unfold Hid; omega
  have r0 : X.tmod (-1) = 0 := tmod_one X
  have q0 : X.tdiv (-1) = -X := tdiv_one X
  have R0 := hid r0
  have Q0 := hid q0
  clear r0 q0
  have x0 : (X == -9223372036854775808) = false := by rw [beq_eq_false_iff_ne]; omega
  have wN : IntKind.i64.wrap (-X) = -X := wrap_is (by omega) (by omega)
  have pN : (-X == -X) = true := by simp
  have HN : Hid (-9223372036854775808 ≤ -X ∧ -X ≤ 9223372036854775807) := by unfold Hid; omega
  have w1 : IntKind.i64.wrap (X + (-1)) = X + (-1) := wrap_is (by omega) (by omega)
  have p8 : (X + (-1) != X + (-1)) = false := by simp
  have HKB : Hid (∀ w', Below w.heap.size w w' → True) := fun _ _ => trivial
  have G := hid (Below.refl w.heap.size w)
  go_enter Try.func3, Try.ntmps3
  go_wp2_with fail
  refine (of_z (n := X) HX0.out HX1.out w).mono ?_
  rintro e w1 ⟨r, rfl, m, b⟩
  obtain ⟨nav, xav, aav, cav, rfl, -, -, -, -, -⟩ := id m
  obtain ⟨W1, hW⟩ : ∃ W1, w1.alloc (duo (.bool nav) (.slice aav xav.length cav)) = W1 := ⟨_, rfl⟩
  have kW : Below w1.heap.size w1 W1 := by rw [← hW]; exact (Below.refl _ _).alloc (Nat.le_refl _) _
  have sz1 : W1.heap.size = w1.heap.size + 1 := by rw [← hW]; simp
  have p : Duo W1 w1.heap.size (.bool nav) (.slice aav xav.length cav) := by rw [← hW]; exact Duo.new w1 _ _
  replace b := below_step b kW
  replace G := hid (below_step G.out b)
  have Zav := hid (m.now kW)
  replace HKB : Hid (∀ w', Below W1.heap.size W1 w' → w'.cell? ⟨w1.heap.size, 0, none⟩ = some (.bool nav) ∧ w'.cell? ⟨w1.heap.size, 1, none⟩ = some (.slice aav xav.length cav)) := fun w' h => by
    have p' := p.below h (by omega)
    exact ⟨p'.c0, p'.c1⟩
  obtain ⟨c0, c1⟩ := HKB.out W1 (Below.refl _ _)
  rw [← hW] at c0 c1
  have EW := hid hW
  clear b kW p hW m
  go_wp2_with fail
  rw [EW.out]
  clear EW
  clear c0 c1
  refine (of_z (n := (-1)) HY0.out HY1.out W1).mono ?_
  rintro e w2 ⟨r, rfl, m, b⟩
  obtain ⟨nbv, xbv, abv, cbv, rfl, -, -, -, -, -⟩ := id m
  obtain ⟨W2, hW⟩ : ∃ W2, w2.alloc (duo (.bool nbv) (.slice abv xbv.length cbv)) = W2 := ⟨_, rfl⟩
  have kW : Below w2.heap.size w2 W2 := by rw [← hW]; exact (Below.refl _ _).alloc (Nat.le_refl _) _
  have sz2 : W2.heap.size = w2.heap.size + 1 := by rw [← hW]; simp
  have p : Duo W2 w2.heap.size (.bool nbv) (.slice abv xbv.length cbv) := by rw [← hW]; exact Duo.new w2 _ _
  replace b := below_step b kW
  replace Zav := hid (Zav.out.now b)
  replace G := hid (below_step G.out b)
  have Zbv := hid (m.now kW)
  replace HKB : Hid (∀ w', Below W2.heap.size W2 w' → w'.cell? ⟨w1.heap.size, 0, none⟩ = some (.bool nav) ∧ w'.cell? ⟨w1.heap.size, 1, none⟩ = some (.slice aav xav.length cav) ∧ w'.cell? ⟨w2.heap.size, 0, none⟩ = some (.bool nbv) ∧ w'.cell? ⟨w2.heap.size, 1, none⟩ = some (.slice abv xbv.length cbv)) := fun w' h => by
    obtain ⟨q0, q1⟩ := HKB.out w' (below_step b h)
    have p' := p.below h (by omega)
    exact ⟨q0, q1, p'.c0, p'.c1⟩
  obtain ⟨c0, c1, c2, c3⟩ := HKB.out W2 (Below.refl _ _)
  rw [← hW] at c0 c1 c2 c3
  have EW := hid hW
  clear b kW p hW m
  go_wp2_with fail
  rw [EW.out]
  clear EW
  clear c0 c1 c2 c3
  refine (small_z (Zav.out).zi HX0.out HX1.out).mono ?_
  rintro e w3 ⟨rfl, b⟩
  replace Zav := hid (Zav.out.now b)
  replace Zbv := hid (Zbv.out.now b)
  replace G := hid (below_step G.out b)
  replace HKB : Hid (∀ w', Below w3.heap.size w3 w' → w'.cell? ⟨w1.heap.size, 0, none⟩ = some (.bool nav) ∧ w'.cell? ⟨w1.heap.size, 1, none⟩ = some (.slice aav xav.length cav) ∧ w'.cell? ⟨w2.heap.size, 0, none⟩ = some (.bool nbv) ∧ w'.cell? ⟨w2.heap.size, 1, none⟩ = some (.slice abv xbv.length cbv)) := fun w' h => HKB.out w' (below_step b h)
  clear b
  obtain ⟨c0, c1, c2, c3⟩ := HKB.out w3 (Below.refl _ _)
  go_wp2_with fail
  clear c0 c1 c2 c3
  refine (of_z (n := 7) (by omega) (by omega) w3).mono ?_
  rintro e w4 ⟨r, rfl, m, b⟩
  obtain ⟨n4, t4, a4, q4, rfl, -, -, -, -, -⟩ := id m
  replace Zav := hid (Zav.out.now b)
  replace Zbv := hid (Zbv.out.now b)
  replace G := hid (below_step G.out b)
  have Zsv := hid m
  clear m
  replace HKB : Hid (∀ w', Below w4.heap.size w4 w' → w'.cell? ⟨w1.heap.size, 0, none⟩ = some (.bool nav) ∧ w'.cell? ⟨w1.heap.size, 1, none⟩ = some (.slice aav xav.length cav) ∧ w'.cell? ⟨w2.heap.size, 0, none⟩ = some (.bool nbv) ∧ w'.cell? ⟨w2.heap.size, 1, none⟩ = some (.slice abv xbv.length cbv)) := fun w' h => HKB.out w' (below_step b h)
  clear b
  obtain ⟨c0, c1, c2, c3⟩ := HKB.out w4 (Below.refl _ _)
  go_wp2_with fail
  clear c0 c1 c2 c3
  refine (int_as (sign_z (Zsv.out).zi) (show cmpI 7 0 = 1 from rfl)).mono ?_
  rintro e w5 ⟨rfl, b⟩
  replace Zav := hid (Zav.out.now b)
  replace Zbv := hid (Zbv.out.now b)
  replace Zsv := hid (Zsv.out.now b)
  replace G := hid (below_step G.out b)
  replace HKB : Hid (∀ w', Below w5.heap.size w5 w' → w'.cell? ⟨w1.heap.size, 0, none⟩ = some (.bool nav) ∧ w'.cell? ⟨w1.heap.size, 1, none⟩ = some (.slice aav xav.length cav) ∧ w'.cell? ⟨w2.heap.size, 0, none⟩ = some (.bool nbv) ∧ w'.cell? ⟨w2.heap.size, 1, none⟩ = some (.slice abv xbv.length cbv)) := fun w' h => HKB.out w' (below_step b h)
  clear b
  obtain ⟨c0, c1, c2, c3⟩ := HKB.out w5 (Below.refl _ _)
  clear Zsv
  go_wp2_with fail
  clear c0 c1 c2 c3
  refine (add_z (Zav.out).zi (Zbv.out).zi (by omega) (by omega)).mono ?_
  rintro e w6 ⟨r, rfl, m, b⟩
  obtain ⟨n6, t6, a6, q6, rfl, -, -, -, -, -⟩ := id m
  replace Zav := hid (Zav.out.now b)
  replace Zbv := hid (Zbv.out.now b)
  replace G := hid (below_step G.out b)
  have Zsu := hid m
  clear m
  replace HKB : Hid (∀ w', Below w6.heap.size w6 w' → w'.cell? ⟨w1.heap.size, 0, none⟩ = some (.bool nav) ∧ w'.cell? ⟨w1.heap.size, 1, none⟩ = some (.slice aav xav.length cav) ∧ w'.cell? ⟨w2.heap.size, 0, none⟩ = some (.bool nbv) ∧ w'.cell? ⟨w2.heap.size, 1, none⟩ = some (.slice abv xbv.length cbv)) := fun w' h => HKB.out w' (below_step b h)
  clear b
  obtain ⟨c0, c1, c2, c3⟩ := HKB.out w6 (Below.refl _ _)
  go_wp2_with fail
  clear c0 c1 c2 c3
  refine (small_z (Zsu.out).zi HF.out.1 HF.out.2).mono ?_
  rintro e w7 ⟨rfl, b⟩
  replace Zav := hid (Zav.out.now b)
  replace Zbv := hid (Zbv.out.now b)
  replace Zsu := hid (Zsu.out.now b)
  replace G := hid (below_step G.out b)
  replace HKB : Hid (∀ w', Below w7.heap.size w7 w' → w'.cell? ⟨w1.heap.size, 0, none⟩ = some (.bool nav) ∧ w'.cell? ⟨w1.heap.size, 1, none⟩ = some (.slice aav xav.length cav) ∧ w'.cell? ⟨w2.heap.size, 0, none⟩ = some (.bool nbv) ∧ w'.cell? ⟨w2.heap.size, 1, none⟩ = some (.slice abv xbv.length cbv)) := fun w' h => HKB.out w' (below_step b h)
  clear b
  obtain ⟨c0, c1, c2, c3⟩ := HKB.out w7 (Below.refl _ _)
  clear Zsu
  go_wp2_with fail
  clear c0 c1 c2 c3
  refine (EC.out _ _ _ _ _ (Zav.out).zi (Zbv.out).zi).mono ?_
  rintro e w8 ⟨rfl, b⟩
  replace Zav := hid (Zav.out.now b)
  replace Zbv := hid (Zbv.out.now b)
  replace G := hid (below_step G.out b)
  replace HKB : Hid (∀ w', Below w8.heap.size w8 w' → w'.cell? ⟨w1.heap.size, 0, none⟩ = some (.bool nav) ∧ w'.cell? ⟨w1.heap.size, 1, none⟩ = some (.slice aav xav.length cav) ∧ w'.cell? ⟨w2.heap.size, 0, none⟩ = some (.bool nbv) ∧ w'.cell? ⟨w2.heap.size, 1, none⟩ = some (.slice abv xbv.length cbv)) := fun w' h => HKB.out w' (below_step b h)
  clear b
  obtain ⟨c0, c1, c2, c3⟩ := HKB.out w8 (Below.refl _ _)
  go_wp2_with fail
  clear c0 c1 c2 c3
  refine (EC.out _ _ _ _ _ (Zav.out).zi (Zbv.out).zi).mono ?_
  rintro e w9 ⟨rfl, b⟩
  replace Zav := hid (Zav.out.now b)
  replace Zbv := hid (Zbv.out.now b)
  replace G := hid (below_step G.out b)
  replace HKB : Hid (∀ w', Below w9.heap.size w9 w' → w'.cell? ⟨w1.heap.size, 0, none⟩ = some (.bool nav) ∧ w'.cell? ⟨w1.heap.size, 1, none⟩ = some (.slice aav xav.length cav) ∧ w'.cell? ⟨w2.heap.size, 0, none⟩ = some (.bool nbv) ∧ w'.cell? ⟨w2.heap.size, 1, none⟩ = some (.slice abv xbv.length cbv)) := fun w' h => HKB.out w' (below_step b h)
  clear b
  obtain ⟨c0, c1, c2, c3⟩ := HKB.out w9 (Below.refl _ _)
  go_wp2_with fail
  clear c0 c1 c2 c3
  refine (trunc_z Zav.out.zi Zbv.out.zi HYN.out (by decide) (by decide)).mono ?_
  rintro e w10 ⟨r0, r1, rfl, m0, m1, b⟩
  obtain ⟨nq, xq, aq, cq, rfl, -, -, -, -, -⟩ := id m0
  obtain ⟨nr, xr, ar, cr, rfl, -, -, -, -, -⟩ := id m1
  obtain ⟨W10, hW⟩ : ∃ W10, (w10.alloc (duo (.bool nq) (.slice aq xq.length cq))).alloc (duo (.bool nr) (.slice ar xr.length cr)) = W10 := ⟨_, rfl⟩
  obtain ⟨kW, sz10⟩ := alloc2 w10 (duo (.bool nq) (.slice aq xq.length cq)) (duo (.bool nr) (.slice ar xr.length cr))
  rw [hW] at kW sz10
  have p0 : Duo W10 (w10.heap.size) (.bool nq) (.slice aq xq.length cq) := by rw [← hW]; exact duo_late (duo_at (by simp)) _
  have p1 : Duo W10 (w10.heap.size + 1) (.bool nr) (.slice ar xr.length cr) := by rw [← hW]; exact duo_at (by simp)
  replace b := below_step b kW
  replace Zav := hid (Zav.out.now b)
  replace Zbv := hid (Zbv.out.now b)
  replace G := hid (below_step G.out b)
  have Zq := hid (m0.now kW)
  have Zr := hid (m1.now kW)
  replace HKB : Hid (∀ w', Below W10.heap.size W10 w' → w'.cell? ⟨w1.heap.size, 0, none⟩ = some (.bool nav) ∧ w'.cell? ⟨w1.heap.size, 1, none⟩ = some (.slice aav xav.length cav) ∧ w'.cell? ⟨w2.heap.size, 0, none⟩ = some (.bool nbv) ∧ w'.cell? ⟨w2.heap.size, 1, none⟩ = some (.slice abv xbv.length cbv) ∧ w'.cell? ⟨w10.heap.size, 0, none⟩ = some (.bool nq) ∧ w'.cell? ⟨w10.heap.size, 1, none⟩ = some (.slice aq xq.length cq) ∧ w'.cell? ⟨w10.heap.size + 1, 0, none⟩ = some (.bool nr) ∧ w'.cell? ⟨w10.heap.size + 1, 1, none⟩ = some (.slice ar xr.length cr)) := fun w' h => by
    obtain ⟨q0, q1, q2, q3⟩ := HKB.out w' (below_step b h)
    exact ⟨q0, q1, q2, q3, (p0.below h (by omega)).c0, (p0.below h (by omega)).c1, (p1.below h (by omega)).c0, (p1.below h (by omega)).c1⟩
  obtain ⟨c0, c1, c2, c3, c4, c5, c6, c7⟩ := HKB.out W10 (Below.refl _ _)
  rw [← hW] at c0 c1 c2 c3 c4 c5 c6 c7
  have EW := hid hW
  clear b kW hW p0 m0 p1 m1
  go_wp2_with fail
  rw [EW.out]
  clear EW
  clear c0 c1 c2 c3 c4 c5 c6 c7
  refine (small_zero (Zr.out).zi R0.out).mono ?_
  rintro e w11 ⟨rfl, b⟩
  replace Zav := hid (Zav.out.now b)
  replace Zbv := hid (Zbv.out.now b)
  replace Zq := hid (Zq.out.now b)
  replace Zr := hid (Zr.out.now b)
  replace G := hid (below_step G.out b)
  replace HKB : Hid (∀ w', Below w11.heap.size w11 w' → w'.cell? ⟨w1.heap.size, 0, none⟩ = some (.bool nav) ∧ w'.cell? ⟨w1.heap.size, 1, none⟩ = some (.slice aav xav.length cav) ∧ w'.cell? ⟨w2.heap.size, 0, none⟩ = some (.bool nbv) ∧ w'.cell? ⟨w2.heap.size, 1, none⟩ = some (.slice abv xbv.length cbv) ∧ w'.cell? ⟨w10.heap.size, 0, none⟩ = some (.bool nq) ∧ w'.cell? ⟨w10.heap.size, 1, none⟩ = some (.slice aq xq.length cq) ∧ w'.cell? ⟨w10.heap.size + 1, 0, none⟩ = some (.bool nr) ∧ w'.cell? ⟨w10.heap.size + 1, 1, none⟩ = some (.slice ar xr.length cr)) := fun w' h => HKB.out w' (below_step b h)
  clear b
  obtain ⟨c0, c1, c2, c3, c4, c5, c6, c7⟩ := HKB.out w11 (Below.refl _ _)
  go_wp2_with fail
  clear c0 c1 c2 c3 c4 c5 c6 c7
  refine (small_as (Zq.out).zi Q0.out HN.out.1 HN.out.2).mono ?_
  rintro e w12 ⟨rfl, b⟩
  replace Zav := hid (Zav.out.now b)
  replace Zbv := hid (Zbv.out.now b)
  replace Zq := hid (Zq.out.now b)
  replace Zr := hid (Zr.out.now b)
  replace G := hid (below_step G.out b)
  replace HKB : Hid (∀ w', Below w12.heap.size w12 w' → w'.cell? ⟨w1.heap.size, 0, none⟩ = some (.bool nav) ∧ w'.cell? ⟨w1.heap.size, 1, none⟩ = some (.slice aav xav.length cav) ∧ w'.cell? ⟨w2.heap.size, 0, none⟩ = some (.bool nbv) ∧ w'.cell? ⟨w2.heap.size, 1, none⟩ = some (.slice abv xbv.length cbv) ∧ w'.cell? ⟨w10.heap.size, 0, none⟩ = some (.bool nq) ∧ w'.cell? ⟨w10.heap.size, 1, none⟩ = some (.slice aq xq.length cq) ∧ w'.cell? ⟨w10.heap.size + 1, 0, none⟩ = some (.bool nr) ∧ w'.cell? ⟨w10.heap.size + 1, 1, none⟩ = some (.slice ar xr.length cr)) := fun w' h => HKB.out w' (below_step b h)
  clear b
  obtain ⟨c0, c1, c2, c3, c4, c5, c6, c7⟩ := HKB.out w12 (Below.refl _ _)
  go_wp2
  go_ret
  exact ⟨rfl, G.out⟩
end Go.Proofs.Ytgdlecghpbckpaa
