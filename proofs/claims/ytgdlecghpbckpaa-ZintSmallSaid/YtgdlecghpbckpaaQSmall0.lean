/-
  Small0: the walk of ZintSmall where y is 0.
-/
import Derived.Test.YtgdlecghpbckpaaQZSmall
namespace Go.Proofs.Ytgdlecghpbckpaa
open Go.RowKit
set_option linter.unusedVariables false

theorem cmp_eq (X Y : Int) : (cmpI X Y == 0) = (X == Y) := by
  unfold cmpI
  (repeat' split)
  · have : (X == Y) = false := by rw [beq_eq_false_iff_ne]; omega
    rw [this]; rfl
  · have : (X == Y) = false := by rw [beq_eq_false_iff_ne]; omega
    rw [this]; rfl
  · have : (X == Y) = true := by rw [beq_iff_eq]; omega
    rw [this]; rfl
theorem tmod_one (X : Int) : X.tmod (-1) = 0 := by rw [Int.tmod_neg, Int.tmod_one]
theorem tdiv_one (X : Int) : X.tdiv (-1) = -X := by rw [Int.tdiv_neg, Int.tdiv_one]
theorem int_as {F : FuncId} {args : Array Value} {w : World} {X Y : Int} (h : Calls Try.prog F args w fun e w' => e = .returned (.int .i64 X) ∧ Below w.heap.size w w') (e : X = Y) : Calls Try.prog F args w fun e w' => e = .returned (.int .i64 Y) ∧ Below w.heap.size w w' := by
  subst e; exact h
theorem tmod_abs (X Y : Int) (h : Y ≠ 0) : ((X.tmod Y).natAbs : Int) < (Y.natAbs : Int) := by
  have h1 := Int.natAbs_tmod X Y
  have h2 := Nat.mod_lt X.natAbs (show 0 < Y.natAbs by omega)
  omega
theorem tdiv_abs (X Y : Int) (h : 2 ≤ Y.natAbs) : 2 * ((X.tdiv Y).natAbs : Int) ≤ (X.natAbs : Int) := by
  have h1 : (X.tdiv Y).natAbs = X.natAbs / Y.natAbs := Int.natAbs_tdiv X Y
  have h2 : X.natAbs / Y.natAbs * 2 ≤ X.natAbs := Nat.le_trans (Nat.mul_le_mul_left _ h) (Nat.div_mul_le_self _ _)
  omega
theorem div_bounds {X Y : Int} (hx0 : -9223372036854775808 ≤ X) (hx1 : X ≤ 9223372036854775807) (hy0 : -9223372036854775808 ≤ Y) (hy1 : Y ≤ 9223372036854775807) (h : Y ≠ 0) :
    -9223372036854775808 ≤ X.tmod Y ∧ X.tmod Y ≤ 9223372036854775807 ∧ (Y ≠ -1 → -9223372036854775808 ≤ X.tdiv Y ∧ X.tdiv Y ≤ 9223372036854775807) := by
  have h1 := tmod_abs X Y h
  refine ⟨by omega, by omega, fun h2 => ?_⟩
  by_cases h3 : Y = 1
  · subst h3; rw [Int.tdiv_one]; omega
  · have := tdiv_abs X Y (by omega)
    omega

theorem small_as {w : World} {v : Value} {z y : Int} {k : Nat} (h : Zi w v z k) (e : z = y) (hx : -9223372036854775808 ≤ y) (hy : y ≤ 9223372036854775807) : Calls Try.prog 5 #[v] w (GivesI w y 0) := by
  subst e; exact small_z h hx hy
theorem small_zero {w : World} {v : Value} {z : Int} {k : Nat} (h : Zi w v z k) (e : z = 0) : Calls Try.prog 5 #[v] w (GivesI w 0 0) := small_as h e (by omega) (by omega)

set_option maxHeartbeats 3200000 in
set_option maxRecDepth 100000 in
theorem zintSmall_zero {w : World} {X Y : Int} (hx0 : -9223372036854775808 ≤ X) (hx1 : X ≤ 9223372036854775807) (hy0 : -9223372036854775808 ≤ Y) (hy1 : Y ≤ 9223372036854775807) (hp : Y = 0) :
    Calls Try.prog 3 #[.int .i64 X, .int .i64 Y] w fun e w' => e = .returned (.bool true) ∧ Below w.heap.size w w' := by
  obtain rfl : Y = 0 := by omega
  have HX0 := hid hx0
  have HX1 := hid hx1
  have HY0 := hid hy0
  have HY1 := hid hy1
  have EC : Hid (∀ w', _) := fun (w' : World) (v u : Value) (k l : Nat) (h : Zi w' v X k) (h' : Zi w' u 0 l) => cmp_z h h'
  have hC1 : X < 0 ↔ cmpI X 0 < 0 := (cmp_sign X 0).1.symm
  have hC2 : (!(X == 0) == (cmpI X 0 == 0)) = false := by rw [cmp_eq]; cases (X == 0) <;> rfl
  generalize cmpI X 0 = C at *
  have p0 : ((0 : Int) != 0) = false := rfl
  have p1 : (X != X) = false := by simp
  have p2 : ((1 : Int) != 1) = false := rfl
  have p3 : ((0 : Int) == 0) = true := rfl
  have p5 : ((5 : Int) == 0) = false := rfl
  have p6 : ((5 : Int) == 5) = true := rfl
  have p7 : ((0 : Int) == 5) = false := rfl
  have wX : IntKind.i64.wrap X = X := wrap_is (by omega) (by omega)
  have HF : Hid (-9223372036854775808 ≤ X + 0 ∧ X + 0 ≤ 9223372036854775807) := by unfold Hid; omega
  have HKB : Hid (∀ w', Below w.heap.size w w' → True) := fun _ _ => trivial
  have G := hid (Below.refl w.heap.size w)
  go_enter Try.func3, Try.ntmps3
  go_wp2_with fail
  refine (of_z (n := X) HX0.out HX1.out w).mono ?_
  rintro e w1 ⟨r, rfl, m, b⟩
  obtain ⟨nav, xav, aav, cav, rfl, -, -, -, -, -⟩ := id m
  obtain ⟨W1, hW⟩ : ∃ W1, w1.alloc (duo (.bool nav) (.slice aav xav.length cav)) = W1 := ⟨_, rfl⟩
  have kW : Below w1.heap.size w1 W1 := by rw [← hW]; exact (Below.refl _ _).alloc (Nat.le_refl _) _
  have sz1 : W1.heap.size = w1.heap.size + 1 := by rw [← hW]; simp
  have p : Duo W1 w1.heap.size (.bool nav) (.slice aav xav.length cav) := by rw [← hW]; exact Duo.new w1 _ _
  replace b := below_step b kW
  replace G := hid (below_step G.out b)
  have Zav := hid (m.now kW)
  replace HKB : Hid (∀ w', Below W1.heap.size W1 w' → w'.cell? ⟨w1.heap.size, 0, none⟩ = some (.bool nav) ∧ w'.cell? ⟨w1.heap.size, 1, none⟩ = some (.slice aav xav.length cav)) := fun w' h => by
    have p' := p.below h (by omega)
    exact ⟨p'.c0, p'.c1⟩
  obtain ⟨c0, c1⟩ := HKB.out W1 (Below.refl _ _)
  rw [← hW] at c0 c1
  have EW := hid hW
  clear b kW p hW m
  go_wp2_with fail
  rw [EW.out]
  clear EW
  clear c0 c1
  refine (of_z (n := 0) HY0.out HY1.out W1).mono ?_
  rintro e w2 ⟨r, rfl, m, b⟩
  obtain ⟨nbv, xbv, abv, cbv, rfl, -, -, -, -, -⟩ := id m
  obtain ⟨W2, hW⟩ : ∃ W2, w2.alloc (duo (.bool nbv) (.slice abv xbv.length cbv)) = W2 := ⟨_, rfl⟩
  have kW : Below w2.heap.size w2 W2 := by rw [← hW]; exact (Below.refl _ _).alloc (Nat.le_refl _) _
  have sz2 : W2.heap.size = w2.heap.size + 1 := by rw [← hW]; simp
  have p : Duo W2 w2.heap.size (.bool nbv) (.slice abv xbv.length cbv) := by rw [← hW]; exact Duo.new w2 _ _
  replace b := below_step b kW
  replace Zav := hid (Zav.out.now b)
  replace G := hid (below_step G.out b)
  have Zbv := hid (m.now kW)
  replace HKB : Hid (∀ w', Below W2.heap.size W2 w' → w'.cell? ⟨w1.heap.size, 0, none⟩ = some (.bool nav) ∧ w'.cell? ⟨w1.heap.size, 1, none⟩ = some (.slice aav xav.length cav) ∧ w'.cell? ⟨w2.heap.size, 0, none⟩ = some (.bool nbv) ∧ w'.cell? ⟨w2.heap.size, 1, none⟩ = some (.slice abv xbv.length cbv)) := fun w' h => by
    obtain ⟨q0, q1⟩ := HKB.out w' (below_step b h)
    have p' := p.below h (by omega)
    exact ⟨q0, q1, p'.c0, p'.c1⟩
  obtain ⟨c0, c1, c2, c3⟩ := HKB.out W2 (Below.refl _ _)
  rw [← hW] at c0 c1 c2 c3
  have EW := hid hW
  clear b kW p hW m
  go_wp2_with fail
  rw [EW.out]
  clear EW
  clear c0 c1 c2 c3
  refine (small_z (Zav.out).zi HX0.out HX1.out).mono ?_
  rintro e w3 ⟨rfl, b⟩
  replace Zav := hid (Zav.out.now b)
  replace Zbv := hid (Zbv.out.now b)
  replace G := hid (below_step G.out b)
  replace HKB : Hid (∀ w', Below w3.heap.size w3 w' → w'.cell? ⟨w1.heap.size, 0, none⟩ = some (.bool nav) ∧ w'.cell? ⟨w1.heap.size, 1, none⟩ = some (.slice aav xav.length cav) ∧ w'.cell? ⟨w2.heap.size, 0, none⟩ = some (.bool nbv) ∧ w'.cell? ⟨w2.heap.size, 1, none⟩ = some (.slice abv xbv.length cbv)) := fun w' h => HKB.out w' (below_step b h)
  clear b
  obtain ⟨c0, c1, c2, c3⟩ := HKB.out w3 (Below.refl _ _)
  go_wp2_with fail
  clear c0 c1 c2 c3
  refine (of_z (n := 7) (by omega) (by omega) w3).mono ?_
  rintro e w4 ⟨r, rfl, m, b⟩
  obtain ⟨n4, t4, a4, q4, rfl, -, -, -, -, -⟩ := id m
  replace Zav := hid (Zav.out.now b)
  replace Zbv := hid (Zbv.out.now b)
  replace G := hid (below_step G.out b)
  have Zsv := hid m
  clear m
  replace HKB : Hid (∀ w', Below w4.heap.size w4 w' → w'.cell? ⟨w1.heap.size, 0, none⟩ = some (.bool nav) ∧ w'.cell? ⟨w1.heap.size, 1, none⟩ = some (.slice aav xav.length cav) ∧ w'.cell? ⟨w2.heap.size, 0, none⟩ = some (.bool nbv) ∧ w'.cell? ⟨w2.heap.size, 1, none⟩ = some (.slice abv xbv.length cbv)) := fun w' h => HKB.out w' (below_step b h)
  clear b
  obtain ⟨c0, c1, c2, c3⟩ := HKB.out w4 (Below.refl _ _)
  go_wp2_with fail
  clear c0 c1 c2 c3
  refine (int_as (sign_z (Zsv.out).zi) (show cmpI 7 0 = 1 from rfl)).mono ?_
  rintro e w5 ⟨rfl, b⟩
  replace Zav := hid (Zav.out.now b)
  replace Zbv := hid (Zbv.out.now b)
  replace Zsv := hid (Zsv.out.now b)
  replace G := hid (below_step G.out b)
  replace HKB : Hid (∀ w', Below w5.heap.size w5 w' → w'.cell? ⟨w1.heap.size, 0, none⟩ = some (.bool nav) ∧ w'.cell? ⟨w1.heap.size, 1, none⟩ = some (.slice aav xav.length cav) ∧ w'.cell? ⟨w2.heap.size, 0, none⟩ = some (.bool nbv) ∧ w'.cell? ⟨w2.heap.size, 1, none⟩ = some (.slice abv xbv.length cbv)) := fun w' h => HKB.out w' (below_step b h)
  clear b
  obtain ⟨c0, c1, c2, c3⟩ := HKB.out w5 (Below.refl _ _)
  clear Zsv
  go_wp2_with fail
  clear c0 c1 c2 c3
  refine (add_z (Zav.out).zi (Zbv.out).zi (by omega) (by omega)).mono ?_
  rintro e w6 ⟨r, rfl, m, b⟩
  obtain ⟨n6, t6, a6, q6, rfl, -, -, -, -, -⟩ := id m
  replace Zav := hid (Zav.out.now b)
  replace Zbv := hid (Zbv.out.now b)
  replace G := hid (below_step G.out b)
  have Zsu := hid m
  clear m
  replace HKB : Hid (∀ w', Below w6.heap.size w6 w' → w'.cell? ⟨w1.heap.size, 0, none⟩ = some (.bool nav) ∧ w'.cell? ⟨w1.heap.size, 1, none⟩ = some (.slice aav xav.length cav) ∧ w'.cell? ⟨w2.heap.size, 0, none⟩ = some (.bool nbv) ∧ w'.cell? ⟨w2.heap.size, 1, none⟩ = some (.slice abv xbv.length cbv)) := fun w' h => HKB.out w' (below_step b h)
  clear b
  obtain ⟨c0, c1, c2, c3⟩ := HKB.out w6 (Below.refl _ _)
  go_wp2_with fail
  clear c0 c1 c2 c3
  refine (small_z (Zsu.out).zi HF.out.1 HF.out.2).mono ?_
  rintro e w7 ⟨rfl, b⟩
  replace Zav := hid (Zav.out.now b)
  replace Zbv := hid (Zbv.out.now b)
  replace Zsu := hid (Zsu.out.now b)
  replace G := hid (below_step G.out b)
  replace HKB : Hid (∀ w', Below w7.heap.size w7 w' → w'.cell? ⟨w1.heap.size, 0, none⟩ = some (.bool nav) ∧ w'.cell? ⟨w1.heap.size, 1, none⟩ = some (.slice aav xav.length cav) ∧ w'.cell? ⟨w2.heap.size, 0, none⟩ = some (.bool nbv) ∧ w'.cell? ⟨w2.heap.size, 1, none⟩ = some (.slice abv xbv.length cbv)) := fun w' h => HKB.out w' (below_step b h)
  clear b
  obtain ⟨c0, c1, c2, c3⟩ := HKB.out w7 (Below.refl _ _)
  clear Zsu
  go_wp2_with fail
  clear c0 c1 c2 c3
  refine (EC.out _ _ _ _ _ (Zav.out).zi (Zbv.out).zi).mono ?_
  rintro e w8 ⟨rfl, b⟩
  replace Zav := hid (Zav.out.now b)
  replace Zbv := hid (Zbv.out.now b)
  replace G := hid (below_step G.out b)
  replace HKB : Hid (∀ w', Below w8.heap.size w8 w' → w'.cell? ⟨w1.heap.size, 0, none⟩ = some (.bool nav) ∧ w'.cell? ⟨w1.heap.size, 1, none⟩ = some (.slice aav xav.length cav) ∧ w'.cell? ⟨w2.heap.size, 0, none⟩ = some (.bool nbv) ∧ w'.cell? ⟨w2.heap.size, 1, none⟩ = some (.slice abv xbv.length cbv)) := fun w' h => HKB.out w' (below_step b h)
  clear b
  obtain ⟨c0, c1, c2, c3⟩ := HKB.out w8 (Below.refl _ _)
  go_wp2_with fail
  clear c0 c1 c2 c3
  refine (EC.out _ _ _ _ _ (Zav.out).zi (Zbv.out).zi).mono ?_
  rintro e w9 ⟨rfl, b⟩
  replace Zav := hid (Zav.out.now b)
  replace Zbv := hid (Zbv.out.now b)
  replace G := hid (below_step G.out b)
  replace HKB : Hid (∀ w', Below w9.heap.size w9 w' → w'.cell? ⟨w1.heap.size, 0, none⟩ = some (.bool nav) ∧ w'.cell? ⟨w1.heap.size, 1, none⟩ = some (.slice aav xav.length cav) ∧ w'.cell? ⟨w2.heap.size, 0, none⟩ = some (.bool nbv) ∧ w'.cell? ⟨w2.heap.size, 1, none⟩ = some (.slice abv xbv.length cbv)) := fun w' h => HKB.out w' (below_step b h)
  clear b
  obtain ⟨c0, c1, c2, c3⟩ := HKB.out w9 (Below.refl _ _)
  go_wp2
  go_ret
  exact ⟨rfl, G.out⟩
end Go.Proofs.Ytgdlecghpbckpaa
