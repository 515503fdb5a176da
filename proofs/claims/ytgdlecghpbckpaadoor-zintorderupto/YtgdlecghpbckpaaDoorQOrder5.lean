/-
  Order5: the walk of ZintOrder.
-/
import Derived.Test.YtgdlecghpbckpaaDoorQZlaw0
namespace Go.Proofs.YtgdlecghpbckpaaDoor
open Go.RowKit
set_option linter.unusedVariables false

theorem ord_1 (A B : Int) : cmpI B A = -(cmpI A B) := by unfold cmpI; (repeat' split) <;> omega
theorem ord_2 (A B : Int) : cmpI (A - B) 0 = cmpI A B := by unfold cmpI; (repeat' split) <;> omega
theorem ord_4 (A B C : Int) : cmpI (A + C) (B + C) = cmpI A B := by unfold cmpI; (repeat' split) <;> omega
theorem mul_sign (A B C : Int) : cmpI (A * C) (B * C) = cmpI A B * cmpI C 0 := by
  rcases cmp_cases A B with ⟨h, e⟩ | ⟨h, e⟩ | ⟨h, e⟩ <;> rcases cmp_cases C 0 with ⟨k, f⟩ | ⟨k, f⟩ | ⟨k, f⟩ <;> rw [e, f]
  · exact cmpI_gt (Int.mul_lt_mul_of_neg_right h k)
  · subst k; simp [cmpI]
  · exact cmpI_lt (Int.mul_lt_mul_of_pos_right h k)
  · subst h; simp [cmpI_self]
  · subst h; simp [cmpI_self]
  · subst h; simp [cmpI_self]
  · exact cmpI_lt (Int.mul_lt_mul_of_neg_right h k)
  · subst k; simp [cmpI]
  · exact cmpI_gt (Int.mul_lt_mul_of_pos_right h k)
theorem ord_5 (A B C : Int) : cmpI (A * C) (B * C) = cmpI A B * cmpI C 0 := mul_sign A B C
theorem ord_6 (A B C : Int) (h : cmpI A B = cmpI B C) : cmpI A C = cmpI A B := by unfold cmpI at *; (repeat' split at h) <;> (repeat' split) <;> omega
theorem ord_9 (A B : Int) : cmpI ((A + B).natAbs : Int) ((A.natAbs : Int) + (B.natAbs : Int)) ≤ 0 := by unfold cmpI; (repeat' split) <;> omega
theorem ord_10 (A B : Int) : cmpI (A * B) 0 = cmpI A 0 * cmpI B 0 := by
  have := mul_sign A 0 B
  rw [Int.zero_mul] at this
  exact this

set_option maxHeartbeats 12800000 in
set_option maxRecDepth 100000 in
theorem zintOrder_any {w : World} {va vb vc : Value} {A B C : Int} (ha : Zi w va A 1048576) (hb : Zi w vb B 1048576) (hc : Zi w vc C 1048576) (hT : Sg w) :
    Calls Tryd.prog 5 #[va, vb, vc] w fun e w' => e = .returned (.bool true) ∧ Below w.heap.size w w' := by
  have F1 := hid (ord_1 A B)
  have F2 := hid (ord_2 A B)
  have F4 := hid (ord_4 A B C)
  have F5 := hid (ord_5 A B C)
  have F6 := hid (ord_6 A B C)
  have F9 := hid (ord_9 A B)
  have F10 := hid (ord_10 A B)
  have bN := cmpI_bound A B
  have bM := cmpI_bound B C
  have bA := cmpI_bound A 0
  have bB := cmpI_bound B 0
  have bC := cmpI_bound C 0
  have E1 : Hid (∀ w', _) := fun (w' : World) (v u : Value) (k l : Nat) (h : Zi w' v A k) (h' : Zi w' u B l) => cmp_z h h'
  have E2 : Hid (∀ w', _) := fun (w' : World) (v u : Value) (k l : Nat) (h : Zi w' v B k) (h' : Zi w' u C l) => cmp_z h h'
  have E3 : Hid (∀ w', _) := fun (w' : World) (v : Value) (k : Nat) (h : Zi w' v A k) => sign_z h
  have E4 : Hid (∀ w', _) := fun (w' : World) (v : Value) (k : Nat) (h : Zi w' v B k) => sign_z h
  have E5 : Hid (∀ w', _) := fun (w' : World) (v : Value) (k : Nat) (h : Zi w' v C k) => sign_z h
  have E6 : Hid (∀ w', _) := fun (w' : World) (v u : Value) (k l : Nat) (h : Zi w' v A k) (h' : Zi w' u 0 l) => cmp_z h h'
  have E7 : Hid (∀ w', _) := fun (w' : World) (v u : Value) (k l : Nat) (h : Zi w' v A k) (h' : Zi w' u B l) => cmpAbs_z h h'
  have E8 : Hid (∀ w', _) := fun (w' : World) (v u : Value) (k l : Nat) (h : Zi w' v (A.natAbs : Int) k) (h' : Zi w' u (B.natAbs : Int) l) => cmp_z h h'
  have E9 : Hid (∀ w', _) := fun (w' : World) (v u : Value) (k l : Nat) (h : Zi w' v ((A + B).natAbs : Int) k) (h' : Zi w' u ((A.natAbs : Int) + (B.natAbs : Int)) l) => cmp_z h h'
  generalize cmpI ((A + B).natAbs : Int) ((A.natAbs : Int) + (B.natAbs : Int)) = Y at *
  have g9 : Y ≤ 0 := F9.out
  have d9 : decide (Y ≤ 0) = true := decide_eq_true g9
  generalize cmpI A B = N at *
  generalize cmpI B C = M at *
  generalize cmpI A 0 = SA at *
  generalize cmpI B 0 = SB at *
  generalize cmpI C 0 = SC at *
  generalize cmpI (A.natAbs : Int) (B.natAbs : Int) = X at *
  have g1 : ¬ N < -1 := by omega
  have g2 : ¬ 1 < N := by omega
  have g3 : (-N != -N) = false := by simp
  have g4 : (N != N) = false := by simp
  have g5 : (N * SC != N * SC) = false := by simp
  have g6 : (X != X) = false := by simp
  have g7 : (SA != SA) = false := by simp
  have g8 : (SA * SB == SA * SB) = true := by simp
  have k1 : IntKind.i64.wrap (-N) = -N := wrap_is (by omega) (by omega)
  have k2 : IntKind.i64.wrap (N * SC) = N * SC := wrap_mul bN bC
  have k3 : IntKind.i64.wrap (SA * SB) = SA * SB := wrap_mul bA bB
  clear bN bM bA bB bC
  have ha0 := hid ha
  obtain ⟨na, xa, aa, ca, rfl, -, -, -⟩ := ha
  have hb0 := hid hb
  obtain ⟨nb, xb, ab, cb, rfl, -, -, -⟩ := hb
  have hc0 := hid hc
  obtain ⟨nc, xc, ac, cc, rfl, -, -, -⟩ := hc
  obtain ⟨W0, hW0⟩ : ∃ W0, ((w.alloc (duo (.bool na) (.slice aa xa.length ca))).alloc (duo (.bool nb) (.slice ab xb.length cb))).alloc (duo (.bool nc) (.slice ac xc.length cc)) = W0 := ⟨_, rfl⟩
  obtain ⟨b0, sz0⟩ := alloc3 w (duo (.bool na) (.slice aa xa.length ca)) (duo (.bool nb) (.slice ab xb.length cb)) (duo (.bool nc) (.slice ac xc.length cc))
  rw [hW0] at b0 sz0
  have p0 : Duo W0 (w.heap.size) (.bool na) (.slice aa xa.length ca) := by rw [← hW0]; exact duo_late (duo_late (duo_at (by simp)) _) _
  have Za := hid (ha0.out.now b0)
  have p1 : Duo W0 (w.heap.size + 1) (.bool nb) (.slice ab xb.length cb) := by rw [← hW0]; exact duo_late (duo_at (by simp)) _
  have Zb := hid (hb0.out.now b0)
  have p2 : Duo W0 (w.heap.size + 1 + 1) (.bool nc) (.slice ac xc.length cc) := by rw [← hW0]; exact duo_at (by simp)
  have Zc := hid (hc0.out.now b0)
  have HKB : Hid (∀ w', Below W0.heap.size W0 w' → w'.cell? ⟨w.heap.size, 0, none⟩ = some (.bool na) ∧ w'.cell? ⟨w.heap.size, 1, none⟩ = some (.slice aa xa.length ca) ∧ w'.cell? ⟨w.heap.size + 1, 0, none⟩ = some (.bool nb) ∧ w'.cell? ⟨w.heap.size + 1, 1, none⟩ = some (.slice ab xb.length cb) ∧ w'.cell? ⟨w.heap.size + 1 + 1, 0, none⟩ = some (.bool nc) ∧ w'.cell? ⟨w.heap.size + 1 + 1, 1, none⟩ = some (.slice ac xc.length cc)) := fun w' h => ⟨(p0.below h (by omega)).c0, (p0.below h (by omega)).c1, (p1.below h (by omega)).c0, (p1.below h (by omega)).c1, (p2.below h (by omega)).c0, (p2.below h (by omega)).c1⟩
  have HT := hid (hT.now b0)
  have G := hid b0
  have EW := hid hW0
  clear b0 hW0 p0 p1 p2 ha0 hb0 hc0 hT
  go_enter Tryd.func5, Tryd.ntmps5
  go_wp2_with fail
  rw [EW.out]
  clear EW
  refine (awake5_any HT.out).mono ?_
  rintro e wA ⟨rfl, bA⟩
  replace Za := hid (Za.out.now bA)
  replace Zb := hid (Zb.out.now bA)
  replace Zc := hid (Zc.out.now bA)
  replace G := hid (below_step G.out bA)
  replace HKB : Hid (∀ w', Below wA.heap.size wA w' → w'.cell? ⟨w.heap.size, 0, none⟩ = some (.bool na) ∧ w'.cell? ⟨w.heap.size, 1, none⟩ = some (.slice aa xa.length ca) ∧ w'.cell? ⟨w.heap.size + 1, 0, none⟩ = some (.bool nb) ∧ w'.cell? ⟨w.heap.size + 1, 1, none⟩ = some (.slice ab xb.length cb) ∧ w'.cell? ⟨w.heap.size + 1 + 1, 0, none⟩ = some (.bool nc) ∧ w'.cell? ⟨w.heap.size + 1 + 1, 1, none⟩ = some (.slice ac xc.length cc)) := fun w' h => HKB.out w' (below_step bA h)
  clear bA HT
  obtain ⟨c0, c1, c2, c3, c4, c5⟩ := HKB.out wA (Below.refl _ _)
  go_wp2_with fail
  clear c0 c1 c2 c3 c4 c5
  refine (E1.out _ _ _ _ _ (Za.out) (Zb.out)).mono ?_
  rintro e w1 ⟨rfl, b⟩
  replace Za := hid (Za.out.now b)
  replace Zb := hid (Zb.out.now b)
  replace Zc := hid (Zc.out.now b)
  replace G := hid (below_step G.out b)
  replace HKB : Hid (∀ w', Below w1.heap.size w1 w' → w'.cell? ⟨w.heap.size, 0, none⟩ = some (.bool na) ∧ w'.cell? ⟨w.heap.size, 1, none⟩ = some (.slice aa xa.length ca) ∧ w'.cell? ⟨w.heap.size + 1, 0, none⟩ = some (.bool nb) ∧ w'.cell? ⟨w.heap.size + 1, 1, none⟩ = some (.slice ab xb.length cb) ∧ w'.cell? ⟨w.heap.size + 1 + 1, 0, none⟩ = some (.bool nc) ∧ w'.cell? ⟨w.heap.size + 1 + 1, 1, none⟩ = some (.slice ac xc.length cc)) := fun w' h => HKB.out w' (below_step b h)
  clear b
  obtain ⟨c0, c1, c2, c3, c4, c5⟩ := HKB.out w1 (Below.refl _ _)
  go_wp2_with fail
  clear c0 c1 c2 c3 c4 c5
  refine (int_as (cmp_z (Zb.out) (Za.out)) F1.out).mono ?_
  rintro e w2 ⟨rfl, b⟩
  replace Za := hid (Za.out.now b)
  replace Zb := hid (Zb.out.now b)
  replace Zc := hid (Zc.out.now b)
  replace G := hid (below_step G.out b)
  replace HKB : Hid (∀ w', Below w2.heap.size w2 w' → w'.cell? ⟨w.heap.size, 0, none⟩ = some (.bool na) ∧ w'.cell? ⟨w.heap.size, 1, none⟩ = some (.slice aa xa.length ca) ∧ w'.cell? ⟨w.heap.size + 1, 0, none⟩ = some (.bool nb) ∧ w'.cell? ⟨w.heap.size + 1, 1, none⟩ = some (.slice ab xb.length cb) ∧ w'.cell? ⟨w.heap.size + 1 + 1, 0, none⟩ = some (.bool nc) ∧ w'.cell? ⟨w.heap.size + 1 + 1, 1, none⟩ = some (.slice ac xc.length cc)) := fun w' h => HKB.out w' (below_step b h)
  clear b
  obtain ⟨c0, c1, c2, c3, c4, c5⟩ := HKB.out w2 (Below.refl _ _)
  go_wp2_with fail
  clear c0 c1 c2 c3 c4 c5
  refine (sub_z (Za.out) (Zb.out) (by omega) (by omega)).mono ?_
  rintro e w3 ⟨r, rfl, m, b⟩
  obtain ⟨n3, t3, a3, q3, rfl, -, -, -, -, -⟩ := id m
  replace Za := hid (Za.out.now b)
  replace Zb := hid (Zb.out.now b)
  replace Zc := hid (Zc.out.now b)
  replace G := hid (below_step G.out b)
  have Zd := hid m
  clear m
  replace HKB : Hid (∀ w', Below w3.heap.size w3 w' → w'.cell? ⟨w.heap.size, 0, none⟩ = some (.bool na) ∧ w'.cell? ⟨w.heap.size, 1, none⟩ = some (.slice aa xa.length ca) ∧ w'.cell? ⟨w.heap.size + 1, 0, none⟩ = some (.bool nb) ∧ w'.cell? ⟨w.heap.size + 1, 1, none⟩ = some (.slice ab xb.length cb) ∧ w'.cell? ⟨w.heap.size + 1 + 1, 0, none⟩ = some (.bool nc) ∧ w'.cell? ⟨w.heap.size + 1 + 1, 1, none⟩ = some (.slice ac xc.length cc)) := fun w' h => HKB.out w' (below_step b h)
  clear b
  obtain ⟨c0, c1, c2, c3, c4, c5⟩ := HKB.out w3 (Below.refl _ _)
  go_wp2_with fail
  clear c0 c1 c2 c3 c4 c5
  refine (int_as (sign_z (Zd.out).zi) F2.out).mono ?_
  rintro e w4 ⟨rfl, b⟩
  replace Za := hid (Za.out.now b)
  replace Zb := hid (Zb.out.now b)
  replace Zc := hid (Zc.out.now b)
  replace Zd := hid (Zd.out.now b)
  replace G := hid (below_step G.out b)
  replace HKB : Hid (∀ w', Below w4.heap.size w4 w' → w'.cell? ⟨w.heap.size, 0, none⟩ = some (.bool na) ∧ w'.cell? ⟨w.heap.size, 1, none⟩ = some (.slice aa xa.length ca) ∧ w'.cell? ⟨w.heap.size + 1, 0, none⟩ = some (.bool nb) ∧ w'.cell? ⟨w.heap.size + 1, 1, none⟩ = some (.slice ab xb.length cb) ∧ w'.cell? ⟨w.heap.size + 1 + 1, 0, none⟩ = some (.bool nc) ∧ w'.cell? ⟨w.heap.size + 1 + 1, 1, none⟩ = some (.slice ac xc.length cc)) := fun w' h => HKB.out w' (below_step b h)
  clear b
  obtain ⟨c0, c1, c2, c3, c4, c5⟩ := HKB.out w4 (Below.refl _ _)
  clear Zd
  go_wp2_with fail
  clear c0 c1 c2 c3 c4 c5
  refine (int_as (cmp_z (Za.out) (Za.out)) (cmpI_self A)).mono ?_
  rintro e w5 ⟨rfl, b⟩
  replace Za := hid (Za.out.now b)
  replace Zb := hid (Zb.out.now b)
  replace Zc := hid (Zc.out.now b)
  replace G := hid (below_step G.out b)
  replace HKB : Hid (∀ w', Below w5.heap.size w5 w' → w'.cell? ⟨w.heap.size, 0, none⟩ = some (.bool na) ∧ w'.cell? ⟨w.heap.size, 1, none⟩ = some (.slice aa xa.length ca) ∧ w'.cell? ⟨w.heap.size + 1, 0, none⟩ = some (.bool nb) ∧ w'.cell? ⟨w.heap.size + 1, 1, none⟩ = some (.slice ab xb.length cb) ∧ w'.cell? ⟨w.heap.size + 1 + 1, 0, none⟩ = some (.bool nc) ∧ w'.cell? ⟨w.heap.size + 1 + 1, 1, none⟩ = some (.slice ac xc.length cc)) := fun w' h => HKB.out w' (below_step b h)
  clear b
  obtain ⟨c0, c1, c2, c3, c4, c5⟩ := HKB.out w5 (Below.refl _ _)
  go_wp2_with fail
  have HC0 := hid (fun (w' : World) (h : Below w5.heap.size w5 w') => add_z (Za.out.now h) (Zc.out.now h) (by omega) (by omega))
  go_region_held3 (fun w' => w'.cell? ⟨w.heap.size, 0, none⟩ = some (.bool na) ∧ w'.cell? ⟨w.heap.size, 1, none⟩ = some (.slice aa xa.length ca) ∧ w'.cell? ⟨w.heap.size + 1, 0, none⟩ = some (.bool nb) ∧ w'.cell? ⟨w.heap.size + 1, 1, none⟩ = some (.slice ab xb.length cb) ∧ w'.cell? ⟨w.heap.size + 1 + 1, 0, none⟩ = some (.bool nc) ∧ w'.cell? ⟨w.heap.size + 1 + 1, 1, none⟩ = some (.slice ac xc.length cc))
    (first
      | ((try dsimp only); refine ⟨?_, ?_, ?_, ?_, ?_, ?_⟩ <;> with_reducible assumption)
      | (refine HKB.out _ ?_; repeat (first | with_reducible exact HP12.out | with_reducible exact HP11.out | with_reducible exact HP10.out | with_reducible exact HP9.out | with_reducible exact HP8.out | with_reducible exact HP7.out | with_reducible exact HP6.out | with_reducible exact Below.refl _ _ | with_reducible apply Below.drew | with_reducible apply below_more)))
    (first
      | (go_at_call 21; refine (HC6.out _ ?_).mono ?_; (repeat (first | exact Below.refl _ _ | apply Below.drew | apply below_more)); rintro e12 w12 ⟨rfl, b12⟩; have HB12 : Hid (Below w11.heap.size w11 w12) := below_step (w0 := w11) (by repeat (first | exact Below.refl _ _ | apply Below.drew | apply below_more)) b12; have HP12 := hid (below_step HP11.out HB12.out); obtain ⟨c12_0, c12_1, c12_2, c12_3, c12_4, c12_5⟩ := HKB.out w12 HP12.out)
      | (go_at_call 24; refine (HC5.out _ ?_).mono ?_; (repeat (first | exact Below.refl _ _ | apply Below.drew | apply below_more)); rintro e11 w11 ⟨rfl, b11⟩; have HB11 : Hid (Below w10.heap.size w10 w11) := below_step (w0 := w10) (by repeat (first | exact Below.refl _ _ | apply Below.drew | apply below_more)) b11; have HP11 := hid (below_step HP10.out HB11.out); have Y11_C := hid (Y10_C.out.now HB11.out); have HC6 := hid (fun (w' : World) (h : Below w11.heap.size w11 w') => E5.out _ _ _ (Y11_C.out.now h)); obtain ⟨c11_0, c11_1, c11_2, c11_3, c11_4, c11_5⟩ := HKB.out w11 HP11.out)
      | (go_at_call 8; refine (HC4.out _ ?_).mono ?_; (repeat (first | exact Below.refl _ _ | apply Below.drew | apply below_more)); rintro e10 w10 ⟨r10, rfl, m10, b10⟩; have HB10 : Hid (Below w9.heap.size w9 w10) := below_step (w0 := w9) (by repeat (first | exact Below.refl _ _ | apply Below.drew | apply below_more)) b10; have HP10 := hid (below_step HP9.out HB10.out); have M10 := hid m10; obtain ⟨n10, t10, a10, q10, rfl, -, -, -, -, -⟩ := m10; have Y10_C := hid (Y9_C.out.now HB10.out); have Y10_T := hid (M9.out.now HB10.out); have HC5 := hid (fun (w' : World) (h : Below w10.heap.size w10 w') => int_as (cmp_z (Y10_T.out.now h).zi (M10.out.now h).zi) F5.out); obtain ⟨c10_0, c10_1, c10_2, c10_3, c10_4, c10_5⟩ := HKB.out w10 HP10.out)
      | (go_at_call 8; refine (HC3.out _ ?_).mono ?_; (repeat (first | exact Below.refl _ _ | apply Below.drew | apply below_more)); rintro e9 w9 ⟨r9, rfl, m9, b9⟩; have HB9 : Hid (Below w8.heap.size w8 w9) := below_step (w0 := w8) (by repeat (first | exact Below.refl _ _ | apply Below.drew | apply below_more)) b9; have HP9 := hid (below_step HP8.out HB9.out); have M9 := hid m9; obtain ⟨n9, t9, a9, q9, rfl, -, -, -, -, -⟩ := m9; have Y9_B := hid (Y8_B.out.now HB9.out); have Y9_C := hid (Y8_C.out.now HB9.out); have HC4 := hid (fun (w' : World) (h : Below w9.heap.size w9 w') => mul_z (Y9_B.out.now h) (Y9_C.out.now h) (by omega)); obtain ⟨c9_0, c9_1, c9_2, c9_3, c9_4, c9_5⟩ := HKB.out w9 HP9.out)
      | (go_at_call 24; refine (HC2.out _ ?_).mono ?_; (repeat (first | exact Below.refl _ _ | apply Below.drew | apply below_more)); rintro e8 w8 ⟨rfl, b8⟩; have HB8 : Hid (Below w7.heap.size w7 w8) := below_step (w0 := w7) (by repeat (first | exact Below.refl _ _ | apply Below.drew | apply below_more)) b8; have HP8 := hid (below_step HP7.out HB8.out); have Y8_A := hid (Y7_A.out.now HB8.out); have Y8_B := hid (Y7_B.out.now HB8.out); have Y8_C := hid (Y7_C.out.now HB8.out); have HC3 := hid (fun (w' : World) (h : Below w8.heap.size w8 w') => mul_z (Y8_A.out.now h) (Y8_C.out.now h) (by omega)); obtain ⟨c8_0, c8_1, c8_2, c8_3, c8_4, c8_5⟩ := HKB.out w8 HP8.out)
      | (go_at_call 9; refine (HC1.out _ ?_).mono ?_; (repeat (first | exact Below.refl _ _ | apply Below.drew | apply below_more)); rintro e7 w7 ⟨r7, rfl, m7, b7⟩; have HB7 : Hid (Below w6.heap.size w6 w7) := below_step (w0 := w6) (by repeat (first | exact Below.refl _ _ | apply Below.drew | apply below_more)) b7; have HP7 := hid (below_step HP6.out HB7.out); have M7 := hid m7; obtain ⟨n7, t7, a7, q7, rfl, -, -, -, -, -⟩ := m7; have Y7_A := hid (Y6_A.out.now HB7.out); have Y7_B := hid (Y6_B.out.now HB7.out); have Y7_C := hid (Y6_C.out.now HB7.out); have Y7_P := hid (M6.out.now HB7.out); have HC2 := hid (fun (w' : World) (h : Below w7.heap.size w7 w') => int_as (cmp_z (Y7_P.out.now h).zi (M7.out.now h).zi) F4.out); obtain ⟨c7_0, c7_1, c7_2, c7_3, c7_4, c7_5⟩ := HKB.out w7 HP7.out)
      | (go_at_call 9; refine (HC0.out _ ?_).mono ?_; (repeat (first | exact Below.refl _ _ | apply Below.drew | apply below_more)); rintro e6 w6 ⟨r6, rfl, m6, b6⟩; have HB6 : Hid (Below w5.heap.size w5 w6) := below_step (w0 := w5) (by repeat (first | exact Below.refl _ _ | apply Below.drew | apply below_more)) b6; have HP6 := hid (HB6.out); have M6 := hid m6; obtain ⟨n6, t6, a6, q6, rfl, -, -, -, -, -⟩ := m6; have Y6_A := hid (Za.out.now HB6.out); have Y6_B := hid (Zb.out.now HB6.out); have Y6_C := hid (Zc.out.now HB6.out); have HC1 := hid (fun (w' : World) (h : Below w6.heap.size w6 w') => add_z (Y6_B.out.now h) (Y6_C.out.now h) (by omega) (by omega)); obtain ⟨c6_0, c6_1, c6_2, c6_3, c6_4, c6_5⟩ := HKB.out w6 HP6.out))
  replace Za := hid (Za.out.now HP12.out)
  replace Zb := hid (Zb.out.now HP12.out)
  replace Zc := hid (Zc.out.now HP12.out)
  replace G := hid (below_step G.out HP12.out)
  replace HKB : Hid (∀ w', Below w12.heap.size w12 w' → w'.cell? ⟨w.heap.size, 0, none⟩ = some (.bool na) ∧ w'.cell? ⟨w.heap.size, 1, none⟩ = some (.slice aa xa.length ca) ∧ w'.cell? ⟨w.heap.size + 1, 0, none⟩ = some (.bool nb) ∧ w'.cell? ⟨w.heap.size + 1, 1, none⟩ = some (.slice ab xb.length cb) ∧ w'.cell? ⟨w.heap.size + 1 + 1, 0, none⟩ = some (.bool nc) ∧ w'.cell? ⟨w.heap.size + 1 + 1, 1, none⟩ = some (.slice ac xc.length cc)) := fun w' h => HKB.out w' (below_step HP12.out h)
  clear HC0 HB6 HP6 c6_0 c6_1 c6_2 c6_3 c6_4 c6_5 HC1 HB7 HP7 c7_0 c7_1 c7_2 c7_3 c7_4 c7_5 HC2 HB8 HP8 c8_0 c8_1 c8_2 c8_3 c8_4 c8_5 HC3 HB9 HP9 c9_0 c9_1 c9_2 c9_3 c9_4 c9_5 HC4 HB10 HP10 c10_0 c10_1 c10_2 c10_3 c10_4 c10_5 HC5 HB11 HP11 c11_0 c11_1 c11_2 c11_3 c11_4 c11_5 HC6 HB12 HP12 c12_0 c12_1 c12_2 c12_3 c12_4 c12_5
  obtain ⟨c0, c1, c2, c3, c4, c5⟩ := HKB.out w12 (Below.refl _ _)
  go_wp2_with fail
  clear c0 c1 c2 c3 c4 c5
  refine (E2.out _ _ _ _ _ (Zb.out) (Zc.out)).mono ?_
  rintro e w13 ⟨rfl, b⟩
  replace Za := hid (Za.out.now b)
  replace Zb := hid (Zb.out.now b)
  replace Zc := hid (Zc.out.now b)
  replace G := hid (below_step G.out b)
  replace HKB : Hid (∀ w', Below w13.heap.size w13 w' → w'.cell? ⟨w.heap.size, 0, none⟩ = some (.bool na) ∧ w'.cell? ⟨w.heap.size, 1, none⟩ = some (.slice aa xa.length ca) ∧ w'.cell? ⟨w.heap.size + 1, 0, none⟩ = some (.bool nb) ∧ w'.cell? ⟨w.heap.size + 1, 1, none⟩ = some (.slice ab xb.length cb) ∧ w'.cell? ⟨w.heap.size + 1 + 1, 0, none⟩ = some (.bool nc) ∧ w'.cell? ⟨w.heap.size + 1 + 1, 1, none⟩ = some (.slice ac xc.length cc)) := fun w' h => HKB.out w' (below_step b h)
  clear b
  obtain ⟨c0, c1, c2, c3, c4, c5⟩ := HKB.out w13 (Below.refl _ _)
  by_cases hNM : N = M
  · have hq : (N == M) = true := by simp [hNM]
    have F7 := hid (F6.out hNM)
    go_wp2_with fail
    clear c0 c1 c2 c3 c4 c5
    refine (int_as (cmp_z (Za.out) (Zc.out)) F7.out).mono ?_
    rintro e w14 ⟨rfl, b⟩
    replace Za := hid (Za.out.now b)
    replace Zb := hid (Zb.out.now b)
    replace Zc := hid (Zc.out.now b)
    replace G := hid (below_step G.out b)
    replace HKB : Hid (∀ w', Below w14.heap.size w14 w' → w'.cell? ⟨w.heap.size, 0, none⟩ = some (.bool na) ∧ w'.cell? ⟨w.heap.size, 1, none⟩ = some (.slice aa xa.length ca) ∧ w'.cell? ⟨w.heap.size + 1, 0, none⟩ = some (.bool nb) ∧ w'.cell? ⟨w.heap.size + 1, 1, none⟩ = some (.slice ab xb.length cb) ∧ w'.cell? ⟨w.heap.size + 1 + 1, 0, none⟩ = some (.bool nc) ∧ w'.cell? ⟨w.heap.size + 1 + 1, 1, none⟩ = some (.slice ac xc.length cc)) := fun w' h => HKB.out w' (below_step b h)
    clear b
    obtain ⟨c0, c1, c2, c3, c4, c5⟩ := HKB.out w14 (Below.refl _ _)
    go_wp2_with fail
    have HC0 := hid (fun (w' : World) (h : Below w14.heap.size w14 w') => E7.out _ _ _ _ _ (Za.out.now h) (Zb.out.now h))
    go_region_held3 (fun w' => w'.cell? ⟨w.heap.size, 0, none⟩ = some (.bool na) ∧ w'.cell? ⟨w.heap.size, 1, none⟩ = some (.slice aa xa.length ca) ∧ w'.cell? ⟨w.heap.size + 1, 0, none⟩ = some (.bool nb) ∧ w'.cell? ⟨w.heap.size + 1, 1, none⟩ = some (.slice ab xb.length cb) ∧ w'.cell? ⟨w.heap.size + 1 + 1, 0, none⟩ = some (.bool nc) ∧ w'.cell? ⟨w.heap.size + 1 + 1, 1, none⟩ = some (.slice ac xc.length cc))
      (first
        | ((try dsimp only); refine ⟨?_, ?_, ?_, ?_, ?_, ?_⟩ <;> with_reducible assumption)
        | (refine HKB.out _ ?_; repeat (first | with_reducible exact HP21.out | with_reducible exact HP20.out | with_reducible exact HP19.out | with_reducible exact HP18.out | with_reducible exact HP17.out | with_reducible exact HP16.out | with_reducible exact HP15.out | with_reducible exact Below.refl _ _ | with_reducible apply Below.drew | with_reducible apply below_more)))
      (first
        | (go_at_call 24; refine (HC6.out _ ?_).mono ?_; (repeat (first | exact Below.refl _ _ | apply Below.drew | apply below_more)); rintro e21 w21 ⟨rfl, b21⟩; have HB21 : Hid (Below w20.heap.size w20 w21) := below_step (w0 := w20) (by repeat (first | exact Below.refl _ _ | apply Below.drew | apply below_more)) b21; have HP21 := hid (below_step HP20.out HB21.out); obtain ⟨c21_0, c21_1, c21_2, c21_3, c21_4, c21_5⟩ := HKB.out w21 HP21.out)
        | (go_at_call 16; refine (HC5.out _ ?_).mono ?_; (repeat (first | exact Below.refl _ _ | apply Below.drew | apply below_more)); rintro e20 w20 ⟨r20, rfl, m20, b20⟩; have HB20 : Hid (Below w19.heap.size w19 w20) := below_step (w0 := w19) (by repeat (first | exact Below.refl _ _ | apply Below.drew | apply below_more)) b20; have HP20 := hid (below_step HP19.out HB20.out); have M20 := hid m20; obtain ⟨n20, t20, a20, q20, rfl, -, -, -, -, -⟩ := m20; have Y20_A := hid (Y19_A.out.now HB20.out); have HC6 := hid (fun (w' : World) (h : Below w20.heap.size w20 w') => E6.out _ _ _ _ _ (Y20_A.out.now h) (M20.out.now h).zi); obtain ⟨c20_0, c20_1, c20_2, c20_3, c20_4, c20_5⟩ := HKB.out w20 HP20.out)
        | (go_at_call 21; refine (HC4.out _ ?_).mono ?_; (repeat (first | exact Below.refl _ _ | apply Below.drew | apply below_more)); rintro e19 w19 ⟨rfl, b19⟩; have HB19 : Hid (Below w18.heap.size w18 w19) := below_step (w0 := w18) (by repeat (first | exact Below.refl _ _ | apply Below.drew | apply below_more)) b19; have HP19 := hid (below_step HP18.out HB19.out); have Y19_A := hid (Y18_A.out.now HB19.out); have HC5 := hid (fun (w' : World) (h : Below w19.heap.size w19 w') => of_z (n := 0) (by omega) (by omega) w'); obtain ⟨c19_0, c19_1, c19_2, c19_3, c19_4, c19_5⟩ := HKB.out w19 HP19.out)
        | (go_at_call 24; refine (HC3.out _ ?_).mono ?_; (repeat (first | exact Below.refl _ _ | apply Below.drew | apply below_more)); rintro e18 w18 ⟨rfl, b18⟩; have HB18 : Hid (Below w17.heap.size w17 w18) := below_step (w0 := w17) (by repeat (first | exact Below.refl _ _ | apply Below.drew | apply below_more)) b18; have HP18 := hid (below_step HP17.out HB18.out); have Y18_A := hid (Y17_A.out.now HB18.out); have HC4 := hid (fun (w' : World) (h : Below w18.heap.size w18 w') => E3.out _ _ _ (Y18_A.out.now h)); obtain ⟨c18_0, c18_1, c18_2, c18_3, c18_4, c18_5⟩ := HKB.out w18 HP18.out)
        | (go_at_call 25; refine (HC2.out _ ?_).mono ?_; (repeat (first | exact Below.refl _ _ | apply Below.drew | apply below_more)); rintro e17 w17 ⟨r17, rfl, m17, b17⟩; have HB17 : Hid (Below w16.heap.size w16 w17) := below_step (w0 := w16) (by repeat (first | exact Below.refl _ _ | apply Below.drew | apply below_more)) b17; have HP17 := hid (below_step HP16.out HB17.out); have M17 := hid m17; obtain ⟨n17, t17, a17, q17, rfl, -, -, -, -, -⟩ := m17; have Y17_A := hid (Y16_A.out.now HB17.out); have Y17_UA := hid (M16.out.now HB17.out); have HC3 := hid (fun (w' : World) (h : Below w17.heap.size w17 w') => E8.out _ _ _ _ _ (Y17_UA.out.now h).zi (M17.out.now h).zi); obtain ⟨c17_0, c17_1, c17_2, c17_3, c17_4, c17_5⟩ := HKB.out w17 HP17.out)
        | (go_at_call 25; refine (HC1.out _ ?_).mono ?_; (repeat (first | exact Below.refl _ _ | apply Below.drew | apply below_more)); rintro e16 w16 ⟨r16, rfl, m16, b16⟩; have HB16 : Hid (Below w15.heap.size w15 w16) := below_step (w0 := w15) (by repeat (first | exact Below.refl _ _ | apply Below.drew | apply below_more)) b16; have HP16 := hid (below_step HP15.out HB16.out); have M16 := hid m16; obtain ⟨n16, t16, a16, q16, rfl, -, -, -, -, -⟩ := m16; have Y16_A := hid (Y15_A.out.now HB16.out); have Y16_B := hid (Y15_B.out.now HB16.out); have HC2 := hid (fun (w' : World) (h : Below w16.heap.size w16 w') => abs_z (Y16_B.out.now h)); obtain ⟨c16_0, c16_1, c16_2, c16_3, c16_4, c16_5⟩ := HKB.out w16 HP16.out)
        | (go_at_call 22; refine (HC0.out _ ?_).mono ?_; (repeat (first | exact Below.refl _ _ | apply Below.drew | apply below_more)); rintro e15 w15 ⟨rfl, b15⟩; have HB15 : Hid (Below w14.heap.size w14 w15) := below_step (w0 := w14) (by repeat (first | exact Below.refl _ _ | apply Below.drew | apply below_more)) b15; have HP15 := hid (HB15.out); have Y15_A := hid (Za.out.now HB15.out); have Y15_B := hid (Zb.out.now HB15.out); have HC1 := hid (fun (w' : World) (h : Below w15.heap.size w15 w') => abs_z (Y15_A.out.now h)); obtain ⟨c15_0, c15_1, c15_2, c15_3, c15_4, c15_5⟩ := HKB.out w15 HP15.out))
    replace Za := hid (Za.out.now HP21.out)
    replace Zb := hid (Zb.out.now HP21.out)
    replace Zc := hid (Zc.out.now HP21.out)
    replace G := hid (below_step G.out HP21.out)
    replace HKB : Hid (∀ w', Below w21.heap.size w21 w' → w'.cell? ⟨w.heap.size, 0, none⟩ = some (.bool na) ∧ w'.cell? ⟨w.heap.size, 1, none⟩ = some (.slice aa xa.length ca) ∧ w'.cell? ⟨w.heap.size + 1, 0, none⟩ = some (.bool nb) ∧ w'.cell? ⟨w.heap.size + 1, 1, none⟩ = some (.slice ab xb.length cb) ∧ w'.cell? ⟨w.heap.size + 1 + 1, 0, none⟩ = some (.bool nc) ∧ w'.cell? ⟨w.heap.size + 1 + 1, 1, none⟩ = some (.slice ac xc.length cc)) := fun w' h => HKB.out w' (below_step HP21.out h)
    clear HC0 HB15 HP15 c15_0 c15_1 c15_2 c15_3 c15_4 c15_5 HC1 HB16 HP16 c16_0 c16_1 c16_2 c16_3 c16_4 c16_5 HC2 HB17 HP17 c17_0 c17_1 c17_2 c17_3 c17_4 c17_5 HC3 HB18 HP18 c18_0 c18_1 c18_2 c18_3 c18_4 c18_5 HC4 HB19 HP19 c19_0 c19_1 c19_2 c19_3 c19_4 c19_5 HC5 HB20 HP20 c20_0 c20_1 c20_2 c20_3 c20_4 c20_5 HC6 HB21 HP21 c21_0 c21_1 c21_2 c21_3 c21_4 c21_5
    obtain ⟨c0, c1, c2, c3, c4, c5⟩ := HKB.out w21 (Below.refl _ _)
    go_wp2_with fail
    have HC0 := hid (fun (w' : World) (h : Below w21.heap.size w21 w') => add_z (Za.out.now h) (Zb.out.now h) (by omega) (by omega))
    go_region_held3 (fun w' => w'.cell? ⟨w.heap.size, 0, none⟩ = some (.bool na) ∧ w'.cell? ⟨w.heap.size, 1, none⟩ = some (.slice aa xa.length ca) ∧ w'.cell? ⟨w.heap.size + 1, 0, none⟩ = some (.bool nb) ∧ w'.cell? ⟨w.heap.size + 1, 1, none⟩ = some (.slice ab xb.length cb) ∧ w'.cell? ⟨w.heap.size + 1 + 1, 0, none⟩ = some (.bool nc) ∧ w'.cell? ⟨w.heap.size + 1 + 1, 1, none⟩ = some (.slice ac xc.length cc))
      (first
        | ((try dsimp only); refine ⟨?_, ?_, ?_, ?_, ?_, ?_⟩ <;> with_reducible assumption)
        | (refine HKB.out _ ?_; repeat (first | with_reducible exact HP31.out | with_reducible exact HP30.out | with_reducible exact HP29.out | with_reducible exact HP28.out | with_reducible exact HP27.out | with_reducible exact HP26.out | with_reducible exact HP25.out | with_reducible exact HP24.out | with_reducible exact HP23.out | with_reducible exact HP22.out | with_reducible exact Below.refl _ _ | with_reducible apply Below.drew | with_reducible apply below_more)))
      (first
        | (go_at_call 21; refine (HC9.out _ ?_).mono ?_; (repeat (first | exact Below.refl _ _ | apply Below.drew | apply below_more)); rintro e31 w31 ⟨rfl, b31⟩; have HB31 : Hid (Below w30.heap.size w30 w31) := below_step (w0 := w30) (by repeat (first | exact Below.refl _ _ | apply Below.drew | apply below_more)) b31; have HP31 := hid (below_step HP30.out HB31.out); obtain ⟨c31_0, c31_1, c31_2, c31_3, c31_4, c31_5⟩ := HKB.out w31 HP31.out)
        | (go_at_call 21; refine (HC8.out _ ?_).mono ?_; (repeat (first | exact Below.refl _ _ | apply Below.drew | apply below_more)); rintro e30 w30 ⟨rfl, b30⟩; have HB30 : Hid (Below w29.heap.size w29 w30) := below_step (w0 := w29) (by repeat (first | exact Below.refl _ _ | apply Below.drew | apply below_more)) b30; have HP30 := hid (below_step HP29.out HB30.out); have Y30_B := hid (Y29_B.out.now HB30.out); have HC9 := hid (fun (w' : World) (h : Below w30.heap.size w30 w') => E4.out _ _ _ (Y30_B.out.now h)); obtain ⟨c30_0, c30_1, c30_2, c30_3, c30_4, c30_5⟩ := HKB.out w30 HP30.out)
        | (go_at_call 21; refine (HC7.out _ ?_).mono ?_; (repeat (first | exact Below.refl _ _ | apply Below.drew | apply below_more)); rintro e29 w29 ⟨rfl, b29⟩; have HB29 : Hid (Below w28.heap.size w28 w29) := below_step (w0 := w28) (by repeat (first | exact Below.refl _ _ | apply Below.drew | apply below_more)) b29; have HP29 := hid (below_step HP28.out HB29.out); have Y29_A := hid (Y28_A.out.now HB29.out); have Y29_B := hid (Y28_B.out.now HB29.out); have HC8 := hid (fun (w' : World) (h : Below w29.heap.size w29 w') => E3.out _ _ _ (Y29_A.out.now h)); obtain ⟨c29_0, c29_1, c29_2, c29_3, c29_4, c29_5⟩ := HKB.out w29 HP29.out)
        | (go_at_call 8; refine (HC6.out _ ?_).mono ?_; (repeat (first | exact Below.refl _ _ | apply Below.drew | apply below_more)); rintro e28 w28 ⟨r28, rfl, m28, b28⟩; have HB28 : Hid (Below w27.heap.size w27 w28) := below_step (w0 := w27) (by repeat (first | exact Below.refl _ _ | apply Below.drew | apply below_more)) b28; have HP28 := hid (below_step HP27.out HB28.out); have M28 := hid m28; obtain ⟨n28, t28, a28, q28, rfl, -, -, -, -, -⟩ := m28; have Y28_A := hid (Y27_A.out.now HB28.out); have Y28_B := hid (Y27_B.out.now HB28.out); have HC7 := hid (fun (w' : World) (h : Below w28.heap.size w28 w') => int_as (sign_z (M28.out.now h).zi) F10.out); obtain ⟨c28_0, c28_1, c28_2, c28_3, c28_4, c28_5⟩ := HKB.out w28 HP28.out)
        | (go_at_call 24; refine (HC5.out _ ?_).mono ?_; (repeat (first | exact Below.refl _ _ | apply Below.drew | apply below_more)); rintro e27 w27 ⟨rfl, b27⟩; have HB27 : Hid (Below w26.heap.size w26 w27) := below_step (w0 := w26) (by repeat (first | exact Below.refl _ _ | apply Below.drew | apply below_more)) b27; have HP27 := hid (below_step HP26.out HB27.out); have Y27_A := hid (Y26_A.out.now HB27.out); have Y27_B := hid (Y26_B.out.now HB27.out); have HC6 := hid (fun (w' : World) (h : Below w27.heap.size w27 w') => mul_z (Y27_A.out.now h) (Y27_B.out.now h) (by omega)); obtain ⟨c27_0, c27_1, c27_2, c27_3, c27_4, c27_5⟩ := HKB.out w27 HP27.out)
        | (go_at_call 9; refine (HC4.out _ ?_).mono ?_; (repeat (first | exact Below.refl _ _ | apply Below.drew | apply below_more)); rintro e26 w26 ⟨r26, rfl, m26, b26⟩; have HB26 : Hid (Below w25.heap.size w25 w26) := below_step (w0 := w25) (by repeat (first | exact Below.refl _ _ | apply Below.drew | apply below_more)) b26; have HP26 := hid (below_step HP25.out HB26.out); have M26 := hid m26; obtain ⟨n26, t26, a26, q26, rfl, -, -, -, -, -⟩ := m26; have Y26_A := hid (Y25_A.out.now HB26.out); have Y26_B := hid (Y25_B.out.now HB26.out); have Y26_Q := hid (Y25_Q.out.now HB26.out); have HC5 := hid (fun (w' : World) (h : Below w26.heap.size w26 w') => E9.out _ _ _ _ _ (Y26_Q.out.now h).zi (M26.out.now h).zi); obtain ⟨c26_0, c26_1, c26_2, c26_3, c26_4, c26_5⟩ := HKB.out w26 HP26.out)
        | (go_at_call 25; refine (HC3.out _ ?_).mono ?_; (repeat (first | exact Below.refl _ _ | apply Below.drew | apply below_more)); rintro e25 w25 ⟨r25, rfl, m25, b25⟩; have HB25 : Hid (Below w24.heap.size w24 w25) := below_step (w0 := w24) (by repeat (first | exact Below.refl _ _ | apply Below.drew | apply below_more)) b25; have HP25 := hid (below_step HP24.out HB25.out); have M25 := hid m25; obtain ⟨n25, t25, a25, q25, rfl, -, -, -, -, -⟩ := m25; have Y25_A := hid (Y24_A.out.now HB25.out); have Y25_B := hid (Y24_B.out.now HB25.out); have Y25_Q := hid (Y24_Q.out.now HB25.out); have Y25_T := hid (M24.out.now HB25.out); have HC4 := hid (fun (w' : World) (h : Below w25.heap.size w25 w') => add_z (Y25_T.out.now h).zi (M25.out.now h).zi (by omega) (by omega)); obtain ⟨c25_0, c25_1, c25_2, c25_3, c25_4, c25_5⟩ := HKB.out w25 HP25.out)
        | (go_at_call 25; refine (HC2.out _ ?_).mono ?_; (repeat (first | exact Below.refl _ _ | apply Below.drew | apply below_more)); rintro e24 w24 ⟨r24, rfl, m24, b24⟩; have HB24 : Hid (Below w23.heap.size w23 w24) := below_step (w0 := w23) (by repeat (first | exact Below.refl _ _ | apply Below.drew | apply below_more)) b24; have HP24 := hid (below_step HP23.out HB24.out); have M24 := hid m24; obtain ⟨n24, t24, a24, q24, rfl, -, -, -, -, -⟩ := m24; have Y24_A := hid (Y23_A.out.now HB24.out); have Y24_B := hid (Y23_B.out.now HB24.out); have Y24_Q := hid (M23.out.now HB24.out); have HC3 := hid (fun (w' : World) (h : Below w24.heap.size w24 w') => abs_z (Y24_B.out.now h)); obtain ⟨c24_0, c24_1, c24_2, c24_3, c24_4, c24_5⟩ := HKB.out w24 HP24.out)
        | (go_at_call 25; refine (HC1.out _ ?_).mono ?_; (repeat (first | exact Below.refl _ _ | apply Below.drew | apply below_more)); rintro e23 w23 ⟨r23, rfl, m23, b23⟩; have HB23 : Hid (Below w22.heap.size w22 w23) := below_step (w0 := w22) (by repeat (first | exact Below.refl _ _ | apply Below.drew | apply below_more)) b23; have HP23 := hid (below_step HP22.out HB23.out); have M23 := hid m23; obtain ⟨n23, t23, a23, q23, rfl, -, -, -, -, -⟩ := m23; have Y23_A := hid (Y22_A.out.now HB23.out); have Y23_B := hid (Y22_B.out.now HB23.out); have HC2 := hid (fun (w' : World) (h : Below w23.heap.size w23 w') => abs_z (Y23_A.out.now h)); obtain ⟨c23_0, c23_1, c23_2, c23_3, c23_4, c23_5⟩ := HKB.out w23 HP23.out)
        | (go_at_call 9; refine (HC0.out _ ?_).mono ?_; (repeat (first | exact Below.refl _ _ | apply Below.drew | apply below_more)); rintro e22 w22 ⟨r22, rfl, m22, b22⟩; have HB22 : Hid (Below w21.heap.size w21 w22) := below_step (w0 := w21) (by repeat (first | exact Below.refl _ _ | apply Below.drew | apply below_more)) b22; have HP22 := hid (HB22.out); have M22 := hid m22; obtain ⟨n22, t22, a22, q22, rfl, -, -, -, -, -⟩ := m22; have Y22_A := hid (Za.out.now HB22.out); have Y22_B := hid (Zb.out.now HB22.out); have HC1 := hid (fun (w' : World) (h : Below w22.heap.size w22 w') => abs_z (M22.out.now h).zi); obtain ⟨c22_0, c22_1, c22_2, c22_3, c22_4, c22_5⟩ := HKB.out w22 HP22.out))
    replace Za := hid (Za.out.now HP31.out)
    replace Zb := hid (Zb.out.now HP31.out)
    replace Zc := hid (Zc.out.now HP31.out)
    replace G := hid (below_step G.out HP31.out)
    replace HKB : Hid (∀ w', Below w31.heap.size w31 w' → w'.cell? ⟨w.heap.size, 0, none⟩ = some (.bool na) ∧ w'.cell? ⟨w.heap.size, 1, none⟩ = some (.slice aa xa.length ca) ∧ w'.cell? ⟨w.heap.size + 1, 0, none⟩ = some (.bool nb) ∧ w'.cell? ⟨w.heap.size + 1, 1, none⟩ = some (.slice ab xb.length cb) ∧ w'.cell? ⟨w.heap.size + 1 + 1, 0, none⟩ = some (.bool nc) ∧ w'.cell? ⟨w.heap.size + 1 + 1, 1, none⟩ = some (.slice ac xc.length cc)) := fun w' h => HKB.out w' (below_step HP31.out h)
    clear HC0 HB22 HP22 c22_0 c22_1 c22_2 c22_3 c22_4 c22_5 HC1 HB23 HP23 c23_0 c23_1 c23_2 c23_3 c23_4 c23_5 HC2 HB24 HP24 c24_0 c24_1 c24_2 c24_3 c24_4 c24_5 HC3 HB25 HP25 c25_0 c25_1 c25_2 c25_3 c25_4 c25_5 HC4 HB26 HP26 c26_0 c26_1 c26_2 c26_3 c26_4 c26_5 HC5 HB27 HP27 c27_0 c27_1 c27_2 c27_3 c27_4 c27_5 HC6 HB28 HP28 c28_0 c28_1 c28_2 c28_3 c28_4 c28_5 HC7 HB29 HP29 c29_0 c29_1 c29_2 c29_3 c29_4 c29_5 HC8 HB30 HP30 c30_0 c30_1 c30_2 c30_3 c30_4 c30_5 HC9 HB31 HP31 c31_0 c31_1 c31_2 c31_3 c31_4 c31_5
    obtain ⟨c0, c1, c2, c3, c4, c5⟩ := HKB.out w31 (Below.refl _ _)
    go_wp2
    go_ret
    exact ⟨rfl, G.out⟩
  · have hq : (N == M) = false := by simp [hNM]
    go_wp2_with fail
    have HC0 := hid (fun (w' : World) (h : Below w13.heap.size w13 w') => E7.out _ _ _ _ _ (Za.out.now h) (Zb.out.now h))
    go_region_held3 (fun w' => w'.cell? ⟨w.heap.size, 0, none⟩ = some (.bool na) ∧ w'.cell? ⟨w.heap.size, 1, none⟩ = some (.slice aa xa.length ca) ∧ w'.cell? ⟨w.heap.size + 1, 0, none⟩ = some (.bool nb) ∧ w'.cell? ⟨w.heap.size + 1, 1, none⟩ = some (.slice ab xb.length cb) ∧ w'.cell? ⟨w.heap.size + 1 + 1, 0, none⟩ = some (.bool nc) ∧ w'.cell? ⟨w.heap.size + 1 + 1, 1, none⟩ = some (.slice ac xc.length cc))
      (first
        | ((try dsimp only); refine ⟨?_, ?_, ?_, ?_, ?_, ?_⟩ <;> with_reducible assumption)
        | (refine HKB.out _ ?_; repeat (first | with_reducible exact HP20.out | with_reducible exact HP19.out | with_reducible exact HP18.out | with_reducible exact HP17.out | with_reducible exact HP16.out | with_reducible exact HP15.out | with_reducible exact HP14.out | with_reducible exact Below.refl _ _ | with_reducible apply Below.drew | with_reducible apply below_more)))
      (first
        | (go_at_call 24; refine (HC6.out _ ?_).mono ?_; (repeat (first | exact Below.refl _ _ | apply Below.drew | apply below_more)); rintro e20 w20 ⟨rfl, b20⟩; have HB20 : Hid (Below w19.heap.size w19 w20) := below_step (w0 := w19) (by repeat (first | exact Below.refl _ _ | apply Below.drew | apply below_more)) b20; have HP20 := hid (below_step HP19.out HB20.out); obtain ⟨c20_0, c20_1, c20_2, c20_3, c20_4, c20_5⟩ := HKB.out w20 HP20.out)
        | (go_at_call 16; refine (HC5.out _ ?_).mono ?_; (repeat (first | exact Below.refl _ _ | apply Below.drew | apply below_more)); rintro e19 w19 ⟨r19, rfl, m19, b19⟩; have HB19 : Hid (Below w18.heap.size w18 w19) := below_step (w0 := w18) (by repeat (first | exact Below.refl _ _ | apply Below.drew | apply below_more)) b19; have HP19 := hid (below_step HP18.out HB19.out); have M19 := hid m19; obtain ⟨n19, t19, a19, q19, rfl, -, -, -, -, -⟩ := m19; have Y19_A := hid (Y18_A.out.now HB19.out); have HC6 := hid (fun (w' : World) (h : Below w19.heap.size w19 w') => E6.out _ _ _ _ _ (Y19_A.out.now h) (M19.out.now h).zi); obtain ⟨c19_0, c19_1, c19_2, c19_3, c19_4, c19_5⟩ := HKB.out w19 HP19.out)
        | (go_at_call 21; refine (HC4.out _ ?_).mono ?_; (repeat (first | exact Below.refl _ _ | apply Below.drew | apply below_more)); rintro e18 w18 ⟨rfl, b18⟩; have HB18 : Hid (Below w17.heap.size w17 w18) := below_step (w0 := w17) (by repeat (first | exact Below.refl _ _ | apply Below.drew | apply below_more)) b18; have HP18 := hid (below_step HP17.out HB18.out); have Y18_A := hid (Y17_A.out.now HB18.out); have HC5 := hid (fun (w' : World) (h : Below w18.heap.size w18 w') => of_z (n := 0) (by omega) (by omega) w'); obtain ⟨c18_0, c18_1, c18_2, c18_3, c18_4, c18_5⟩ := HKB.out w18 HP18.out)
        | (go_at_call 24; refine (HC3.out _ ?_).mono ?_; (repeat (first | exact Below.refl _ _ | apply Below.drew | apply below_more)); rintro e17 w17 ⟨rfl, b17⟩; have HB17 : Hid (Below w16.heap.size w16 w17) := below_step (w0 := w16) (by repeat (first | exact Below.refl _ _ | apply Below.drew | apply below_more)) b17; have HP17 := hid (below_step HP16.out HB17.out); have Y17_A := hid (Y16_A.out.now HB17.out); have HC4 := hid (fun (w' : World) (h : Below w17.heap.size w17 w') => E3.out _ _ _ (Y17_A.out.now h)); obtain ⟨c17_0, c17_1, c17_2, c17_3, c17_4, c17_5⟩ := HKB.out w17 HP17.out)
        | (go_at_call 25; refine (HC2.out _ ?_).mono ?_; (repeat (first | exact Below.refl _ _ | apply Below.drew | apply below_more)); rintro e16 w16 ⟨r16, rfl, m16, b16⟩; have HB16 : Hid (Below w15.heap.size w15 w16) := below_step (w0 := w15) (by repeat (first | exact Below.refl _ _ | apply Below.drew | apply below_more)) b16; have HP16 := hid (below_step HP15.out HB16.out); have M16 := hid m16; obtain ⟨n16, t16, a16, q16, rfl, -, -, -, -, -⟩ := m16; have Y16_A := hid (Y15_A.out.now HB16.out); have Y16_UA := hid (M15.out.now HB16.out); have HC3 := hid (fun (w' : World) (h : Below w16.heap.size w16 w') => E8.out _ _ _ _ _ (Y16_UA.out.now h).zi (M16.out.now h).zi); obtain ⟨c16_0, c16_1, c16_2, c16_3, c16_4, c16_5⟩ := HKB.out w16 HP16.out)
        | (go_at_call 25; refine (HC1.out _ ?_).mono ?_; (repeat (first | exact Below.refl _ _ | apply Below.drew | apply below_more)); rintro e15 w15 ⟨r15, rfl, m15, b15⟩; have HB15 : Hid (Below w14.heap.size w14 w15) := below_step (w0 := w14) (by repeat (first | exact Below.refl _ _ | apply Below.drew | apply below_more)) b15; have HP15 := hid (below_step HP14.out HB15.out); have M15 := hid m15; obtain ⟨n15, t15, a15, q15, rfl, -, -, -, -, -⟩ := m15; have Y15_A := hid (Y14_A.out.now HB15.out); have Y15_B := hid (Y14_B.out.now HB15.out); have HC2 := hid (fun (w' : World) (h : Below w15.heap.size w15 w') => abs_z (Y15_B.out.now h)); obtain ⟨c15_0, c15_1, c15_2, c15_3, c15_4, c15_5⟩ := HKB.out w15 HP15.out)
        | (go_at_call 22; refine (HC0.out _ ?_).mono ?_; (repeat (first | exact Below.refl _ _ | apply Below.drew | apply below_more)); rintro e14 w14 ⟨rfl, b14⟩; have HB14 : Hid (Below w13.heap.size w13 w14) := below_step (w0 := w13) (by repeat (first | exact Below.refl _ _ | apply Below.drew | apply below_more)) b14; have HP14 := hid (HB14.out); have Y14_A := hid (Za.out.now HB14.out); have Y14_B := hid (Zb.out.now HB14.out); have HC1 := hid (fun (w' : World) (h : Below w14.heap.size w14 w') => abs_z (Y14_A.out.now h)); obtain ⟨c14_0, c14_1, c14_2, c14_3, c14_4, c14_5⟩ := HKB.out w14 HP14.out))
    replace Za := hid (Za.out.now HP20.out)
    replace Zb := hid (Zb.out.now HP20.out)
    replace Zc := hid (Zc.out.now HP20.out)
    replace G := hid (below_step G.out HP20.out)
    replace HKB : Hid (∀ w', Below w20.heap.size w20 w' → w'.cell? ⟨w.heap.size, 0, none⟩ = some (.bool na) ∧ w'.cell? ⟨w.heap.size, 1, none⟩ = some (.slice aa xa.length ca) ∧ w'.cell? ⟨w.heap.size + 1, 0, none⟩ = some (.bool nb) ∧ w'.cell? ⟨w.heap.size + 1, 1, none⟩ = some (.slice ab xb.length cb) ∧ w'.cell? ⟨w.heap.size + 1 + 1, 0, none⟩ = some (.bool nc) ∧ w'.cell? ⟨w.heap.size + 1 + 1, 1, none⟩ = some (.slice ac xc.length cc)) := fun w' h => HKB.out w' (below_step HP20.out h)
    clear HC0 HB14 HP14 c14_0 c14_1 c14_2 c14_3 c14_4 c14_5 HC1 HB15 HP15 c15_0 c15_1 c15_2 c15_3 c15_4 c15_5 HC2 HB16 HP16 c16_0 c16_1 c16_2 c16_3 c16_4 c16_5 HC3 HB17 HP17 c17_0 c17_1 c17_2 c17_3 c17_4 c17_5 HC4 HB18 HP18 c18_0 c18_1 c18_2 c18_3 c18_4 c18_5 HC5 HB19 HP19 c19_0 c19_1 c19_2 c19_3 c19_4 c19_5 HC6 HB20 HP20 c20_0 c20_1 c20_2 c20_3 c20_4 c20_5
    obtain ⟨c0, c1, c2, c3, c4, c5⟩ := HKB.out w20 (Below.refl _ _)
    go_wp2_with fail
    have HC0 := hid (fun (w' : World) (h : Below w20.heap.size w20 w') => add_z (Za.out.now h) (Zb.out.now h) (by omega) (by omega))
    go_region_held3 (fun w' => w'.cell? ⟨w.heap.size, 0, none⟩ = some (.bool na) ∧ w'.cell? ⟨w.heap.size, 1, none⟩ = some (.slice aa xa.length ca) ∧ w'.cell? ⟨w.heap.size + 1, 0, none⟩ = some (.bool nb) ∧ w'.cell? ⟨w.heap.size + 1, 1, none⟩ = some (.slice ab xb.length cb) ∧ w'.cell? ⟨w.heap.size + 1 + 1, 0, none⟩ = some (.bool nc) ∧ w'.cell? ⟨w.heap.size + 1 + 1, 1, none⟩ = some (.slice ac xc.length cc))
      (first
        | ((try dsimp only); refine ⟨?_, ?_, ?_, ?_, ?_, ?_⟩ <;> with_reducible assumption)
        | (refine HKB.out _ ?_; repeat (first | with_reducible exact HP30.out | with_reducible exact HP29.out | with_reducible exact HP28.out | with_reducible exact HP27.out | with_reducible exact HP26.out | with_reducible exact HP25.out | with_reducible exact HP24.out | with_reducible exact HP23.out | with_reducible exact HP22.out | with_reducible exact HP21.out | with_reducible exact Below.refl _ _ | with_reducible apply Below.drew | with_reducible apply below_more)))
      (first
        | (go_at_call 21; refine (HC9.out _ ?_).mono ?_; (repeat (first | exact Below.refl _ _ | apply Below.drew | apply below_more)); rintro e30 w30 ⟨rfl, b30⟩; have HB30 : Hid (Below w29.heap.size w29 w30) := below_step (w0 := w29) (by repeat (first | exact Below.refl _ _ | apply Below.drew | apply below_more)) b30; have HP30 := hid (below_step HP29.out HB30.out); obtain ⟨c30_0, c30_1, c30_2, c30_3, c30_4, c30_5⟩ := HKB.out w30 HP30.out)
        | (go_at_call 21; refine (HC8.out _ ?_).mono ?_; (repeat (first | exact Below.refl _ _ | apply Below.drew | apply below_more)); rintro e29 w29 ⟨rfl, b29⟩; have HB29 : Hid (Below w28.heap.size w28 w29) := below_step (w0 := w28) (by repeat (first | exact Below.refl _ _ | apply Below.drew | apply below_more)) b29; have HP29 := hid (below_step HP28.out HB29.out); have Y29_B := hid (Y28_B.out.now HB29.out); have HC9 := hid (fun (w' : World) (h : Below w29.heap.size w29 w') => E4.out _ _ _ (Y29_B.out.now h)); obtain ⟨c29_0, c29_1, c29_2, c29_3, c29_4, c29_5⟩ := HKB.out w29 HP29.out)
        | (go_at_call 21; refine (HC7.out _ ?_).mono ?_; (repeat (first | exact Below.refl _ _ | apply Below.drew | apply below_more)); rintro e28 w28 ⟨rfl, b28⟩; have HB28 : Hid (Below w27.heap.size w27 w28) := below_step (w0 := w27) (by repeat (first | exact Below.refl _ _ | apply Below.drew | apply below_more)) b28; have HP28 := hid (below_step HP27.out HB28.out); have Y28_A := hid (Y27_A.out.now HB28.out); have Y28_B := hid (Y27_B.out.now HB28.out); have HC8 := hid (fun (w' : World) (h : Below w28.heap.size w28 w') => E3.out _ _ _ (Y28_A.out.now h)); obtain ⟨c28_0, c28_1, c28_2, c28_3, c28_4, c28_5⟩ := HKB.out w28 HP28.out)
        | (go_at_call 8; refine (HC6.out _ ?_).mono ?_; (repeat (first | exact Below.refl _ _ | apply Below.drew | apply below_more)); rintro e27 w27 ⟨r27, rfl, m27, b27⟩; have HB27 : Hid (Below w26.heap.size w26 w27) := below_step (w0 := w26) (by repeat (first | exact Below.refl _ _ | apply Below.drew | apply below_more)) b27; have HP27 := hid (below_step HP26.out HB27.out); have M27 := hid m27; obtain ⟨n27, t27, a27, q27, rfl, -, -, -, -, -⟩ := m27; have Y27_A := hid (Y26_A.out.now HB27.out); have Y27_B := hid (Y26_B.out.now HB27.out); have HC7 := hid (fun (w' : World) (h : Below w27.heap.size w27 w') => int_as (sign_z (M27.out.now h).zi) F10.out); obtain ⟨c27_0, c27_1, c27_2, c27_3, c27_4, c27_5⟩ := HKB.out w27 HP27.out)
        | (go_at_call 24; refine (HC5.out _ ?_).mono ?_; (repeat (first | exact Below.refl _ _ | apply Below.drew | apply below_more)); rintro e26 w26 ⟨rfl, b26⟩; have HB26 : Hid (Below w25.heap.size w25 w26) := below_step (w0 := w25) (by repeat (first | exact Below.refl _ _ | apply Below.drew | apply below_more)) b26; have HP26 := hid (below_step HP25.out HB26.out); have Y26_A := hid (Y25_A.out.now HB26.out); have Y26_B := hid (Y25_B.out.now HB26.out); have HC6 := hid (fun (w' : World) (h : Below w26.heap.size w26 w') => mul_z (Y26_A.out.now h) (Y26_B.out.now h) (by omega)); obtain ⟨c26_0, c26_1, c26_2, c26_3, c26_4, c26_5⟩ := HKB.out w26 HP26.out)
        | (go_at_call 9; refine (HC4.out _ ?_).mono ?_; (repeat (first | exact Below.refl _ _ | apply Below.drew | apply below_more)); rintro e25 w25 ⟨r25, rfl, m25, b25⟩; have HB25 : Hid (Below w24.heap.size w24 w25) := below_step (w0 := w24) (by repeat (first | exact Below.refl _ _ | apply Below.drew | apply below_more)) b25; have HP25 := hid (below_step HP24.out HB25.out); have M25 := hid m25; obtain ⟨n25, t25, a25, q25, rfl, -, -, -, -, -⟩ := m25; have Y25_A := hid (Y24_A.out.now HB25.out); have Y25_B := hid (Y24_B.out.now HB25.out); have Y25_Q := hid (Y24_Q.out.now HB25.out); have HC5 := hid (fun (w' : World) (h : Below w25.heap.size w25 w') => E9.out _ _ _ _ _ (Y25_Q.out.now h).zi (M25.out.now h).zi); obtain ⟨c25_0, c25_1, c25_2, c25_3, c25_4, c25_5⟩ := HKB.out w25 HP25.out)
        | (go_at_call 25; refine (HC3.out _ ?_).mono ?_; (repeat (first | exact Below.refl _ _ | apply Below.drew | apply below_more)); rintro e24 w24 ⟨r24, rfl, m24, b24⟩; have HB24 : Hid (Below w23.heap.size w23 w24) := below_step (w0 := w23) (by repeat (first | exact Below.refl _ _ | apply Below.drew | apply below_more)) b24; have HP24 := hid (below_step HP23.out HB24.out); have M24 := hid m24; obtain ⟨n24, t24, a24, q24, rfl, -, -, -, -, -⟩ := m24; have Y24_A := hid (Y23_A.out.now HB24.out); have Y24_B := hid (Y23_B.out.now HB24.out); have Y24_Q := hid (Y23_Q.out.now HB24.out); have Y24_T := hid (M23.out.now HB24.out); have HC4 := hid (fun (w' : World) (h : Below w24.heap.size w24 w') => add_z (Y24_T.out.now h).zi (M24.out.now h).zi (by omega) (by omega)); obtain ⟨c24_0, c24_1, c24_2, c24_3, c24_4, c24_5⟩ := HKB.out w24 HP24.out)
        | (go_at_call 25; refine (HC2.out _ ?_).mono ?_; (repeat (first | exact Below.refl _ _ | apply Below.drew | apply below_more)); rintro e23 w23 ⟨r23, rfl, m23, b23⟩; have HB23 : Hid (Below w22.heap.size w22 w23) := below_step (w0 := w22) (by repeat (first | exact Below.refl _ _ | apply Below.drew | apply below_more)) b23; have HP23 := hid (below_step HP22.out HB23.out); have M23 := hid m23; obtain ⟨n23, t23, a23, q23, rfl, -, -, -, -, -⟩ := m23; have Y23_A := hid (Y22_A.out.now HB23.out); have Y23_B := hid (Y22_B.out.now HB23.out); have Y23_Q := hid (M22.out.now HB23.out); have HC3 := hid (fun (w' : World) (h : Below w23.heap.size w23 w') => abs_z (Y23_B.out.now h)); obtain ⟨c23_0, c23_1, c23_2, c23_3, c23_4, c23_5⟩ := HKB.out w23 HP23.out)
        | (go_at_call 25; refine (HC1.out _ ?_).mono ?_; (repeat (first | exact Below.refl _ _ | apply Below.drew | apply below_more)); rintro e22 w22 ⟨r22, rfl, m22, b22⟩; have HB22 : Hid (Below w21.heap.size w21 w22) := below_step (w0 := w21) (by repeat (first | exact Below.refl _ _ | apply Below.drew | apply below_more)) b22; have HP22 := hid (below_step HP21.out HB22.out); have M22 := hid m22; obtain ⟨n22, t22, a22, q22, rfl, -, -, -, -, -⟩ := m22; have Y22_A := hid (Y21_A.out.now HB22.out); have Y22_B := hid (Y21_B.out.now HB22.out); have HC2 := hid (fun (w' : World) (h : Below w22.heap.size w22 w') => abs_z (Y22_A.out.now h)); obtain ⟨c22_0, c22_1, c22_2, c22_3, c22_4, c22_5⟩ := HKB.out w22 HP22.out)
        | (go_at_call 9; refine (HC0.out _ ?_).mono ?_; (repeat (first | exact Below.refl _ _ | apply Below.drew | apply below_more)); rintro e21 w21 ⟨r21, rfl, m21, b21⟩; have HB21 : Hid (Below w20.heap.size w20 w21) := below_step (w0 := w20) (by repeat (first | exact Below.refl _ _ | apply Below.drew | apply below_more)) b21; have HP21 := hid (HB21.out); have M21 := hid m21; obtain ⟨n21, t21, a21, q21, rfl, -, -, -, -, -⟩ := m21; have Y21_A := hid (Za.out.now HB21.out); have Y21_B := hid (Zb.out.now HB21.out); have HC1 := hid (fun (w' : World) (h : Below w21.heap.size w21 w') => abs_z (M21.out.now h).zi); obtain ⟨c21_0, c21_1, c21_2, c21_3, c21_4, c21_5⟩ := HKB.out w21 HP21.out))
    replace Za := hid (Za.out.now HP30.out)
    replace Zb := hid (Zb.out.now HP30.out)
    replace Zc := hid (Zc.out.now HP30.out)
    replace G := hid (below_step G.out HP30.out)
    replace HKB : Hid (∀ w', Below w30.heap.size w30 w' → w'.cell? ⟨w.heap.size, 0, none⟩ = some (.bool na) ∧ w'.cell? ⟨w.heap.size, 1, none⟩ = some (.slice aa xa.length ca) ∧ w'.cell? ⟨w.heap.size + 1, 0, none⟩ = some (.bool nb) ∧ w'.cell? ⟨w.heap.size + 1, 1, none⟩ = some (.slice ab xb.length cb) ∧ w'.cell? ⟨w.heap.size + 1 + 1, 0, none⟩ = some (.bool nc) ∧ w'.cell? ⟨w.heap.size + 1 + 1, 1, none⟩ = some (.slice ac xc.length cc)) := fun w' h => HKB.out w' (below_step HP30.out h)
    clear HC0 HB21 HP21 c21_0 c21_1 c21_2 c21_3 c21_4 c21_5 HC1 HB22 HP22 c22_0 c22_1 c22_2 c22_3 c22_4 c22_5 HC2 HB23 HP23 c23_0 c23_1 c23_2 c23_3 c23_4 c23_5 HC3 HB24 HP24 c24_0 c24_1 c24_2 c24_3 c24_4 c24_5 HC4 HB25 HP25 c25_0 c25_1 c25_2 c25_3 c25_4 c25_5 HC5 HB26 HP26 c26_0 c26_1 c26_2 c26_3 c26_4 c26_5 HC6 HB27 HP27 c27_0 c27_1 c27_2 c27_3 c27_4 c27_5 HC7 HB28 HP28 c28_0 c28_1 c28_2 c28_3 c28_4 c28_5 HC8 HB29 HP29 c29_0 c29_1 c29_2 c29_3 c29_4 c29_5 HC9 HB30 HP30 c30_0 c30_1 c30_2 c30_3 c30_4 c30_5
    obtain ⟨c0, c1, c2, c3, c4, c5⟩ := HKB.out w30 (Below.refl _ _)
    go_wp2
    go_ret
    exact ⟨rfl, G.out⟩
end Go.Proofs.YtgdlecghpbckpaaDoor
