/-
  Ring5: the walk of ZintRing.
-/
import Derived.Test.YtgdlecghpbckpaaDoorQAwake5
namespace Go.Proofs.YtgdlecghpbckpaaDoor
open Go.RowKit
set_option linter.unusedVariables false

theorem below_more {w0 w : World} {o : Obj} (h : Below w0.heap.size w0 w) : Below w0.heap.size w0 (w.alloc o) := h.alloc h.size o
theorem zm_zero {B : Nat} {w : World} {n : Bool} {xs : List Int} {a : Option Addr} {c k : Nat} {z : Int} (h : Zm B w (.agg #[.bool n, .slice a xs.length c]) z k) (hz : z = 0) : n = false ∧ xs = [] := by
  obtain ⟨n', xs', a', c', h1, h2, h3, h4, h5, h6⟩ := h
  simp only [Value.agg.injEq, Array.mk.injEq, List.cons.injEq, Value.bool.injEq, Value.slice.injEq, and_true] at h1
  obtain ⟨rfl, rfl, h7, rfl⟩ := h1
  have h0 : val xs' = 0 := by rw [hz] at h5; cases n <;> simp [iv] at h5 <;> exact h5
  have e : xs' = [] := canon_zero h3 h0
  subst e
  exact ⟨h4 rfl, List.eq_nil_of_length_eq_zero h7⟩
theorem zl_three {w : World} {x0 y0 x1 y1 x2 y2 : Value} {A B C : Int} {k : Nat} (ha : Zi w (.agg #[x0, y0]) A k) (hb : Zi w (.agg #[x1, y1]) B k) (hc : Zi w (.agg #[x2, y2]) C k) :
    Zl (w.alloc (.cells #[x0, y0, x1, y1, x2, y2] 24)) (.slice (some ⟨w.heap.size, 0, none⟩) 3 3) [A, B, C] k := by
  have b0 : Below w.heap.size w (w.alloc (.cells #[x0, y0, x1, y1, x2, y2] 24)) := (Below.refl _ _).alloc (Nat.le_refl _) _
  have h := heap_alloc_new w (.cells #[x0, y0, x1, y1, x2, y2] 24)
  have sz : w.heap.size < (w.alloc (.cells #[x0, y0, x1, y1, x2, y2] 24)).heap.size := by simp
  generalize w.alloc (.cells #[x0, y0, x1, y1, x2, y2] 24) = W at *
  refine ⟨_, 3, rfl, by simp, by simp, .inr ⟨w.heap.size, 0, rfl, sz, fun j hj => ?_⟩⟩
  simp only [List.length_cons, List.length_nil] at hj
  rcases (show j = 0 ∨ j = 1 ∨ j = 2 by omega) with rfl | rfl | rfl
  · exact ⟨x0, y0, by simp [World.cell?, h], by simp [World.cell?, h], ha.now b0⟩
  · exact ⟨x1, y1, by simp [World.cell?, h], by simp [World.cell?, h], hb.now b0⟩
  · exact ⟨x2, y2, by simp [World.cell?, h], by simp [World.cell?, h], hc.now b0⟩

set_option maxHeartbeats 12800000 in
set_option maxRecDepth 100000 in
theorem zintRing_any {w : World} {va vb vc : Value} {A B C : Int} (ha : Zi w va A 1048576) (hb : Zi w vb B 1048576) (hc : Zi w vc C 1048576) (hT : Sg w) :
    Calls Tryd.prog 3 #[va, vb, vc] w fun e w' => e = .returned (.bool true) ∧ Below w.heap.size w w' := by
  have ha0 := hid ha
  obtain ⟨na, xa, aa, ca, rfl, -, -, -⟩ := ha
  have hb0 := hid hb
  obtain ⟨nb, xb, ab, cb, rfl, -, -, -⟩ := hb
  have hc0 := hid hc
  obtain ⟨nc, xc, ac, cc, rfl, -, -, -⟩ := hc
  obtain ⟨W0, hW0⟩ : ∃ W0, ((w.alloc (duo (.bool na) (.slice aa xa.length ca))).alloc (duo (.bool nb) (.slice ab xb.length cb))).alloc (duo (.bool nc) (.slice ac xc.length cc)) = W0 := ⟨_, rfl⟩
  obtain ⟨b0, sz0⟩ := alloc3 w (duo (.bool na) (.slice aa xa.length ca)) (duo (.bool nb) (.slice ab xb.length cb)) (duo (.bool nc) (.slice ac xc.length cc))
  rw [hW0] at b0 sz0
  have p0 : Duo W0 (w.heap.size) (.bool na) (.slice aa xa.length ca) := by rw [← hW0]; exact duo_late (duo_late (duo_at (by simp)) _) _
  have Za := hid (ha0.out.now b0)
  have p1 : Duo W0 (w.heap.size + 1) (.bool nb) (.slice ab xb.length cb) := by rw [← hW0]; exact duo_late (duo_at (by simp)) _
  have Zb := hid (hb0.out.now b0)
  have p2 : Duo W0 (w.heap.size + 1 + 1) (.bool nc) (.slice ac xc.length cc) := by rw [← hW0]; exact duo_at (by simp)
  have Zc := hid (hc0.out.now b0)
  have HKB : Hid (∀ w', Below W0.heap.size W0 w' → w'.cell? ⟨w.heap.size, 0, none⟩ = some (.bool na) ∧ w'.cell? ⟨w.heap.size, 1, none⟩ = some (.slice aa xa.length ca) ∧ w'.cell? ⟨w.heap.size + 1, 0, none⟩ = some (.bool nb) ∧ w'.cell? ⟨w.heap.size + 1, 1, none⟩ = some (.slice ab xb.length cb) ∧ w'.cell? ⟨w.heap.size + 1 + 1, 0, none⟩ = some (.bool nc) ∧ w'.cell? ⟨w.heap.size + 1 + 1, 1, none⟩ = some (.slice ac xc.length cc)) := fun w' h => ⟨(p0.below h (by omega)).c0, (p0.below h (by omega)).c1, (p1.below h (by omega)).c0, (p1.below h (by omega)).c1, (p2.below h (by omega)).c0, (p2.below h (by omega)).c1⟩
  have HT := hid (hT.now b0)
  have G := hid b0
  have EW := hid hW0
  clear b0 hW0 p0 p1 p2 ha0 hb0 hc0 hT
  go_enter Tryd.func3, Tryd.ntmps3
  go_wp2_with fail
  rw [EW.out]
  clear EW
  refine (awake5_any HT.out).mono ?_
  rintro e wA ⟨rfl, bA⟩
  replace Za := hid (Za.out.now bA)
  replace Zb := hid (Zb.out.now bA)
  replace Zc := hid (Zc.out.now bA)
  replace G := hid (below_step G.out bA)
  replace HKB : Hid (∀ w', Below wA.heap.size wA w' → w'.cell? ⟨w.heap.size, 0, none⟩ = some (.bool na) ∧ w'.cell? ⟨w.heap.size, 1, none⟩ = some (.slice aa xa.length ca) ∧ w'.cell? ⟨w.heap.size + 1, 0, none⟩ = some (.bool nb) ∧ w'.cell? ⟨w.heap.size + 1, 1, none⟩ = some (.slice ab xb.length cb) ∧ w'.cell? ⟨w.heap.size + 1 + 1, 0, none⟩ = some (.bool nc) ∧ w'.cell? ⟨w.heap.size + 1 + 1, 1, none⟩ = some (.slice ac xc.length cc)) := fun w' h => HKB.out w' (below_step bA h)
  clear bA HT
  obtain ⟨c0, c1, c2, c3, c4, c5⟩ := HKB.out wA (Below.refl _ _)
  go_wp2_with fail
  clear c0 c1 c2 c3 c4 c5
  refine (mul_z (Za.out) (Zb.out) (by omega)).mono ?_
  rintro e w1 ⟨r, rfl, m, b⟩
  obtain ⟨nab, xab, aab, cab, rfl, -, -, -, -, -⟩ := id m
  obtain ⟨W1, hW⟩ : ∃ W1, w1.alloc (duo (.bool nab) (.slice aab xab.length cab)) = W1 := ⟨_, rfl⟩
  have kW : Below w1.heap.size w1 W1 := by rw [← hW]; exact (Below.refl _ _).alloc (Nat.le_refl _) _
  have sz1 : W1.heap.size = w1.heap.size + 1 := by rw [← hW]; simp
  have p : Duo W1 w1.heap.size (.bool nab) (.slice aab xab.length cab) := by rw [← hW]; exact Duo.new w1 _ _
  replace b := below_step b kW
  replace Za := hid (Za.out.now b)
  replace Zb := hid (Zb.out.now b)
  replace Zc := hid (Zc.out.now b)
  replace G := hid (below_step G.out b)
  have Zab := hid (m.now kW)
  replace HKB : Hid (∀ w', Below W1.heap.size W1 w' → w'.cell? ⟨w.heap.size, 0, none⟩ = some (.bool na) ∧ w'.cell? ⟨w.heap.size, 1, none⟩ = some (.slice aa xa.length ca) ∧ w'.cell? ⟨w.heap.size + 1, 0, none⟩ = some (.bool nb) ∧ w'.cell? ⟨w.heap.size + 1, 1, none⟩ = some (.slice ab xb.length cb) ∧ w'.cell? ⟨w.heap.size + 1 + 1, 0, none⟩ = some (.bool nc) ∧ w'.cell? ⟨w.heap.size + 1 + 1, 1, none⟩ = some (.slice ac xc.length cc) ∧ w'.cell? ⟨w1.heap.size, 0, none⟩ = some (.bool nab) ∧ w'.cell? ⟨w1.heap.size, 1, none⟩ = some (.slice aab xab.length cab)) := fun w' h => by
    obtain ⟨q0, q1, q2, q3, q4, q5⟩ := HKB.out w' (below_step b h)
    have p' := p.below h (by omega)
    exact ⟨q0, q1, q2, q3, q4, q5, p'.c0, p'.c1⟩
  obtain ⟨c0, c1, c2, c3, c4, c5, c6, c7⟩ := HKB.out W1 (Below.refl _ _)
  rw [← hW] at c0 c1 c2 c3 c4 c5 c6 c7
  have EW := hid hW
  clear b kW p hW m
  go_wp2_with fail
  rw [EW.out]
  clear EW
  clear c0 c1 c2 c3 c4 c5 c6 c7
  refine (mul_z (Za.out) (Zc.out) (by omega)).mono ?_
  rintro e w2 ⟨r, rfl, m, b⟩
  obtain ⟨nac, xac, aac, cac, rfl, -, -, -, -, -⟩ := id m
  obtain ⟨W2, hW⟩ : ∃ W2, w2.alloc (duo (.bool nac) (.slice aac xac.length cac)) = W2 := ⟨_, rfl⟩
  have kW : Below w2.heap.size w2 W2 := by rw [← hW]; exact (Below.refl _ _).alloc (Nat.le_refl _) _
  have sz2 : W2.heap.size = w2.heap.size + 1 := by rw [← hW]; simp
  have p : Duo W2 w2.heap.size (.bool nac) (.slice aac xac.length cac) := by rw [← hW]; exact Duo.new w2 _ _
  replace b := below_step b kW
  replace Za := hid (Za.out.now b)
  replace Zb := hid (Zb.out.now b)
  replace Zc := hid (Zc.out.now b)
  replace Zab := hid (Zab.out.now b)
  replace G := hid (below_step G.out b)
  have Zac := hid (m.now kW)
  replace HKB : Hid (∀ w', Below W2.heap.size W2 w' → w'.cell? ⟨w.heap.size, 0, none⟩ = some (.bool na) ∧ w'.cell? ⟨w.heap.size, 1, none⟩ = some (.slice aa xa.length ca) ∧ w'.cell? ⟨w.heap.size + 1, 0, none⟩ = some (.bool nb) ∧ w'.cell? ⟨w.heap.size + 1, 1, none⟩ = some (.slice ab xb.length cb) ∧ w'.cell? ⟨w.heap.size + 1 + 1, 0, none⟩ = some (.bool nc) ∧ w'.cell? ⟨w.heap.size + 1 + 1, 1, none⟩ = some (.slice ac xc.length cc) ∧ w'.cell? ⟨w1.heap.size, 0, none⟩ = some (.bool nab) ∧ w'.cell? ⟨w1.heap.size, 1, none⟩ = some (.slice aab xab.length cab) ∧ w'.cell? ⟨w2.heap.size, 0, none⟩ = some (.bool nac) ∧ w'.cell? ⟨w2.heap.size, 1, none⟩ = some (.slice aac xac.length cac)) := fun w' h => by
    obtain ⟨q0, q1, q2, q3, q4, q5, q6, q7⟩ := HKB.out w' (below_step b h)
    have p' := p.below h (by omega)
    exact ⟨q0, q1, q2, q3, q4, q5, q6, q7, p'.c0, p'.c1⟩
  obtain ⟨c0, c1, c2, c3, c4, c5, c6, c7, c8, c9⟩ := HKB.out W2 (Below.refl _ _)
  rw [← hW] at c0 c1 c2 c3 c4 c5 c6 c7 c8 c9
  have EW := hid hW
  clear b kW p hW m
  go_wp2_with fail
  rw [EW.out]
  clear EW
  clear c0 c1 c2 c3 c4 c5 c6 c7 c8 c9
  refine (add_z (Zb.out) (Zc.out) (by omega) (by omega)).mono ?_
  rintro e w3 ⟨r, rfl, m, b⟩
  obtain ⟨nsu, xsu, asu, csu, rfl, -, -, -, -, -⟩ := id m
  obtain ⟨W3, hW⟩ : ∃ W3, w3.alloc (duo (.bool nsu) (.slice asu xsu.length csu)) = W3 := ⟨_, rfl⟩
  have kW : Below w3.heap.size w3 W3 := by rw [← hW]; exact (Below.refl _ _).alloc (Nat.le_refl _) _
  have sz3 : W3.heap.size = w3.heap.size + 1 := by rw [← hW]; simp
  have p : Duo W3 w3.heap.size (.bool nsu) (.slice asu xsu.length csu) := by rw [← hW]; exact Duo.new w3 _ _
  replace b := below_step b kW
  replace Za := hid (Za.out.now b)
  replace Zb := hid (Zb.out.now b)
  replace Zc := hid (Zc.out.now b)
  replace Zab := hid (Zab.out.now b)
  replace Zac := hid (Zac.out.now b)
  replace G := hid (below_step G.out b)
  have Zsu := hid (m.now kW)
  replace HKB : Hid (∀ w', Below W3.heap.size W3 w' → w'.cell? ⟨w.heap.size, 0, none⟩ = some (.bool na) ∧ w'.cell? ⟨w.heap.size, 1, none⟩ = some (.slice aa xa.length ca) ∧ w'.cell? ⟨w.heap.size + 1, 0, none⟩ = some (.bool nb) ∧ w'.cell? ⟨w.heap.size + 1, 1, none⟩ = some (.slice ab xb.length cb) ∧ w'.cell? ⟨w.heap.size + 1 + 1, 0, none⟩ = some (.bool nc) ∧ w'.cell? ⟨w.heap.size + 1 + 1, 1, none⟩ = some (.slice ac xc.length cc) ∧ w'.cell? ⟨w1.heap.size, 0, none⟩ = some (.bool nab) ∧ w'.cell? ⟨w1.heap.size, 1, none⟩ = some (.slice aab xab.length cab) ∧ w'.cell? ⟨w2.heap.size, 0, none⟩ = some (.bool nac) ∧ w'.cell? ⟨w2.heap.size, 1, none⟩ = some (.slice aac xac.length cac) ∧ w'.cell? ⟨w3.heap.size, 0, none⟩ = some (.bool nsu) ∧ w'.cell? ⟨w3.heap.size, 1, none⟩ = some (.slice asu xsu.length csu)) := fun w' h => by
    obtain ⟨q0, q1, q2, q3, q4, q5, q6, q7, q8, q9⟩ := HKB.out w' (below_step b h)
    have p' := p.below h (by omega)
    exact ⟨q0, q1, q2, q3, q4, q5, q6, q7, q8, q9, p'.c0, p'.c1⟩
  obtain ⟨c0, c1, c2, c3, c4, c5, c6, c7, c8, c9, c10, c11⟩ := HKB.out W3 (Below.refl _ _)
  rw [← hW] at c0 c1 c2 c3 c4 c5 c6 c7 c8 c9 c10 c11
  have EW := hid hW
  clear b kW p hW m
  go_wp2_with fail
  rw [EW.out]
  clear EW
  clear c0 c1 c2 c3 c4 c5 c6 c7 c8 c9 c10 c11
  obtain ⟨c0, c1, c2, c3, c4, c5, c6, c7, c8, c9, c10, c11⟩ := HKB.out W3 (Below.refl _ _)
  have HC0 := hid (fun (w' : World) (h : Below W3.heap.size W3 w') => mul_z (Zb.out.now h) (Za.out.now h) (by omega))
  go_region_held3 (fun w' => w'.cell? ⟨w.heap.size, 0, none⟩ = some (.bool na) ∧ w'.cell? ⟨w.heap.size, 1, none⟩ = some (.slice aa xa.length ca) ∧ w'.cell? ⟨w.heap.size + 1, 0, none⟩ = some (.bool nb) ∧ w'.cell? ⟨w.heap.size + 1, 1, none⟩ = some (.slice ab xb.length cb) ∧ w'.cell? ⟨w.heap.size + 1 + 1, 0, none⟩ = some (.bool nc) ∧ w'.cell? ⟨w.heap.size + 1 + 1, 1, none⟩ = some (.slice ac xc.length cc) ∧ w'.cell? ⟨w1.heap.size, 0, none⟩ = some (.bool nab) ∧ w'.cell? ⟨w1.heap.size, 1, none⟩ = some (.slice aab xab.length cab) ∧ w'.cell? ⟨w2.heap.size, 0, none⟩ = some (.bool nac) ∧ w'.cell? ⟨w2.heap.size, 1, none⟩ = some (.slice aac xac.length cac) ∧ w'.cell? ⟨w3.heap.size, 0, none⟩ = some (.bool nsu) ∧ w'.cell? ⟨w3.heap.size, 1, none⟩ = some (.slice asu xsu.length csu))
    (first
      | ((try dsimp only); refine ⟨?_, ?_, ?_, ?_, ?_, ?_, ?_, ?_, ?_, ?_, ?_, ?_⟩ <;> with_reducible assumption)
      | (refine HKB.out _ ?_; repeat (first | with_reducible exact HP11.out | with_reducible exact HP10.out | with_reducible exact HP9.out | with_reducible exact HP8.out | with_reducible exact HP7.out | with_reducible exact HP6.out | with_reducible exact HP5.out | with_reducible exact HP4.out | with_reducible exact Below.refl _ _ | with_reducible apply Below.drew | with_reducible apply below_more)))
    (first
      | (go_at_call 10; refine (HC7.out _ ?_).mono ?_; (repeat (first | exact Below.refl _ _ | apply Below.drew | apply below_more)); rintro e11 w11 ⟨rfl, b11⟩; have HB11 : Hid (Below w10.heap.size w10 w11) := below_step (w0 := w10) (by repeat (first | exact Below.refl _ _ | apply Below.drew | apply below_more)) b11; have HP11 := hid (below_step HP10.out HB11.out); obtain ⟨c11_0, c11_1, c11_2, c11_3, c11_4, c11_5, c11_6, c11_7, c11_8, c11_9, c11_10, c11_11⟩ := HKB.out w11 HP11.out)
      | (go_at_call 9; refine (HC6.out _ ?_).mono ?_; (repeat (first | exact Below.refl _ _ | apply Below.drew | apply below_more)); rintro e10 w10 ⟨r10, rfl, m10, b10⟩; have HB10 : Hid (Below w9.heap.size w9 w10) := below_step (w0 := w9) (by repeat (first | exact Below.refl _ _ | apply Below.drew | apply below_more)) b10; have HP10 := hid (below_step HP9.out HB10.out); have M10 := hid m10; obtain ⟨n10, t10, a10, q10, rfl, -, -, -, -, -⟩ := m10; have Y10_T := hid (M9.out.now HB10.out); have HC7 := hid (fun (w' : World) (h : Below w10.heap.size w10 w') => alike_yes (Y10_T.out.now h) (M10.out.now h) (by grind)); obtain ⟨c10_0, c10_1, c10_2, c10_3, c10_4, c10_5, c10_6, c10_7, c10_8, c10_9, c10_10, c10_11⟩ := HKB.out w10 HP10.out)
      | (go_at_call 8; refine (HC5.out _ ?_).mono ?_; (repeat (first | exact Below.refl _ _ | apply Below.drew | apply below_more)); rintro e9 w9 ⟨r9, rfl, m9, b9⟩; have HB9 : Hid (Below w8.heap.size w8 w9) := below_step (w0 := w8) (by repeat (first | exact Below.refl _ _ | apply Below.drew | apply below_more)) b9; have HP9 := hid (below_step HP8.out HB9.out); have M9 := hid m9; obtain ⟨n9, t9, a9, q9, rfl, -, -, -, -, -⟩ := m9; have Y9_AB := hid (Y8_AB.out.now HB9.out); have Y9_AC := hid (Y8_AC.out.now HB9.out); have HC6 := hid (fun (w' : World) (h : Below w9.heap.size w9 w') => add_z (Y9_AB.out.now h).zi (Y9_AC.out.now h).zi (by omega) (by omega)); obtain ⟨c9_0, c9_1, c9_2, c9_3, c9_4, c9_5, c9_6, c9_7, c9_8, c9_9, c9_10, c9_11⟩ := HKB.out w9 HP9.out)
      | (go_at_call 10; refine (HC4.out _ ?_).mono ?_; (repeat (first | exact Below.refl _ _ | apply Below.drew | apply below_more)); rintro e8 w8 ⟨rfl, b8⟩; have HB8 : Hid (Below w7.heap.size w7 w8) := below_step (w0 := w7) (by repeat (first | exact Below.refl _ _ | apply Below.drew | apply below_more)) b8; have HP8 := hid (below_step HP7.out HB8.out); have Y8_A := hid (Y7_A.out.now HB8.out); have Y8_AB := hid (Y7_AB.out.now HB8.out); have Y8_AC := hid (Y7_AC.out.now HB8.out); have Y8_SU := hid (Y7_SU.out.now HB8.out); have HC5 := hid (fun (w' : World) (h : Below w8.heap.size w8 w') => mul_z (Y8_A.out.now h) (Y8_SU.out.now h).zi (by omega)); obtain ⟨c8_0, c8_1, c8_2, c8_3, c8_4, c8_5, c8_6, c8_7, c8_8, c8_9, c8_10, c8_11⟩ := HKB.out w8 HP8.out)
      | (go_at_call 8; refine (HC3.out _ ?_).mono ?_; (repeat (first | exact Below.refl _ _ | apply Below.drew | apply below_more)); rintro e7 w7 ⟨r7, rfl, m7, b7⟩; have HB7 : Hid (Below w6.heap.size w6 w7) := below_step (w0 := w6) (by repeat (first | exact Below.refl _ _ | apply Below.drew | apply below_more)) b7; have HP7 := hid (below_step HP6.out HB7.out); have M7 := hid m7; obtain ⟨n7, t7, a7, q7, rfl, -, -, -, -, -⟩ := m7; have Y7_A := hid (Y6_A.out.now HB7.out); have Y7_AB := hid (Y6_AB.out.now HB7.out); have Y7_AC := hid (Y6_AC.out.now HB7.out); have Y7_SU := hid (Y6_SU.out.now HB7.out); have Y7_P := hid (M6.out.now HB7.out); have HC4 := hid (fun (w' : World) (h : Below w7.heap.size w7 w') => alike_yes (Y7_P.out.now h) (M7.out.now h) (by grind)); obtain ⟨c7_0, c7_1, c7_2, c7_3, c7_4, c7_5, c7_6, c7_7, c7_8, c7_9, c7_10, c7_11⟩ := HKB.out w7 HP7.out)
      | (go_at_call 8; refine (HC2.out _ ?_).mono ?_; (repeat (first | exact Below.refl _ _ | apply Below.drew | apply below_more)); rintro e6 w6 ⟨r6, rfl, m6, b6⟩; have HB6 : Hid (Below w5.heap.size w5 w6) := below_step (w0 := w5) (by repeat (first | exact Below.refl _ _ | apply Below.drew | apply below_more)) b6; have HP6 := hid (below_step HP5.out HB6.out); have M6 := hid m6; obtain ⟨n6, t6, a6, q6, rfl, -, -, -, -, -⟩ := m6; have Y6_A := hid (Y5_A.out.now HB6.out); have Y6_B := hid (Y5_B.out.now HB6.out); have Y6_AB := hid (Y5_AB.out.now HB6.out); have Y6_AC := hid (Y5_AC.out.now HB6.out); have Y6_SU := hid (Y5_SU.out.now HB6.out); have HC3 := hid (fun (w' : World) (h : Below w6.heap.size w6 w') => mul_z (Y6_B.out.now h) (Y6_AC.out.now h).zi (by omega)); obtain ⟨c6_0, c6_1, c6_2, c6_3, c6_4, c6_5, c6_6, c6_7, c6_8, c6_9, c6_10, c6_11⟩ := HKB.out w6 HP6.out)
      | (go_at_call 10; refine (HC1.out _ ?_).mono ?_; (repeat (first | exact Below.refl _ _ | apply Below.drew | apply below_more)); rintro e5 w5 ⟨rfl, b5⟩; have HB5 : Hid (Below w4.heap.size w4 w5) := below_step (w0 := w4) (by repeat (first | exact Below.refl _ _ | apply Below.drew | apply below_more)) b5; have HP5 := hid (below_step HP4.out HB5.out); have Y5_A := hid (Y4_A.out.now HB5.out); have Y5_B := hid (Y4_B.out.now HB5.out); have Y5_C := hid (Y4_C.out.now HB5.out); have Y5_AB := hid (Y4_AB.out.now HB5.out); have Y5_AC := hid (Y4_AC.out.now HB5.out); have Y5_SU := hid (Y4_SU.out.now HB5.out); have HC2 := hid (fun (w' : World) (h : Below w5.heap.size w5 w') => mul_z (Y5_AB.out.now h).zi (Y5_C.out.now h) (by omega)); obtain ⟨c5_0, c5_1, c5_2, c5_3, c5_4, c5_5, c5_6, c5_7, c5_8, c5_9, c5_10, c5_11⟩ := HKB.out w5 HP5.out)
      | (go_at_call 8; refine (HC0.out _ ?_).mono ?_; (repeat (first | exact Below.refl _ _ | apply Below.drew | apply below_more)); rintro e4 w4 ⟨r4, rfl, m4, b4⟩; have HB4 : Hid (Below W3.heap.size W3 w4) := below_step (w0 := W3) (by repeat (first | exact Below.refl _ _ | apply Below.drew | apply below_more)) b4; have HP4 := hid (HB4.out); have M4 := hid m4; obtain ⟨n4, t4, a4, q4, rfl, -, -, -, -, -⟩ := m4; have Y4_A := hid (Za.out.now HB4.out); have Y4_B := hid (Zb.out.now HB4.out); have Y4_C := hid (Zc.out.now HB4.out); have Y4_AB := hid (Zab.out.now HB4.out); have Y4_AC := hid (Zac.out.now HB4.out); have Y4_SU := hid (Zsu.out.now HB4.out); have HC1 := hid (fun (w' : World) (h : Below w4.heap.size w4 w') => alike_yes (Y4_AB.out.now h) (M4.out.now h) (by grind)); obtain ⟨c4_0, c4_1, c4_2, c4_3, c4_4, c4_5, c4_6, c4_7, c4_8, c4_9, c4_10, c4_11⟩ := HKB.out w4 HP4.out))
  replace Za := hid (Za.out.now HP11.out)
  replace Zb := hid (Zb.out.now HP11.out)
  replace Zc := hid (Zc.out.now HP11.out)
  replace Zab := hid (Zab.out.now HP11.out)
  replace Zac := hid (Zac.out.now HP11.out)
  replace Zsu := hid (Zsu.out.now HP11.out)
  replace G := hid (below_step G.out HP11.out)
  replace HKB : Hid (∀ w', Below w11.heap.size w11 w' → w'.cell? ⟨w.heap.size, 0, none⟩ = some (.bool na) ∧ w'.cell? ⟨w.heap.size, 1, none⟩ = some (.slice aa xa.length ca) ∧ w'.cell? ⟨w.heap.size + 1, 0, none⟩ = some (.bool nb) ∧ w'.cell? ⟨w.heap.size + 1, 1, none⟩ = some (.slice ab xb.length cb) ∧ w'.cell? ⟨w.heap.size + 1 + 1, 0, none⟩ = some (.bool nc) ∧ w'.cell? ⟨w.heap.size + 1 + 1, 1, none⟩ = some (.slice ac xc.length cc) ∧ w'.cell? ⟨w1.heap.size, 0, none⟩ = some (.bool nab) ∧ w'.cell? ⟨w1.heap.size, 1, none⟩ = some (.slice aab xab.length cab) ∧ w'.cell? ⟨w2.heap.size, 0, none⟩ = some (.bool nac) ∧ w'.cell? ⟨w2.heap.size, 1, none⟩ = some (.slice aac xac.length cac) ∧ w'.cell? ⟨w3.heap.size, 0, none⟩ = some (.bool nsu) ∧ w'.cell? ⟨w3.heap.size, 1, none⟩ = some (.slice asu xsu.length csu)) := fun w' h => HKB.out w' (below_step HP11.out h)
  clear HC0 HB4 HP4 c4_0 c4_1 c4_2 c4_3 c4_4 c4_5 c4_6 c4_7 c4_8 c4_9 c4_10 c4_11 HC1 HB5 HP5 c5_0 c5_1 c5_2 c5_3 c5_4 c5_5 c5_6 c5_7 c5_8 c5_9 c5_10 c5_11 HC2 HB6 HP6 c6_0 c6_1 c6_2 c6_3 c6_4 c6_5 c6_6 c6_7 c6_8 c6_9 c6_10 c6_11 HC3 HB7 HP7 c7_0 c7_1 c7_2 c7_3 c7_4 c7_5 c7_6 c7_7 c7_8 c7_9 c7_10 c7_11 HC4 HB8 HP8 c8_0 c8_1 c8_2 c8_3 c8_4 c8_5 c8_6 c8_7 c8_8 c8_9 c8_10 c8_11 HC5 HB9 HP9 c9_0 c9_1 c9_2 c9_3 c9_4 c9_5 c9_6 c9_7 c9_8 c9_9 c9_10 c9_11 HC6 HB10 HP10 c10_0 c10_1 c10_2 c10_3 c10_4 c10_5 c10_6 c10_7 c10_8 c10_9 c10_10 c10_11 HC7 HB11 HP11 c11_0 c11_1 c11_2 c11_3 c11_4 c11_5 c11_6 c11_7 c11_8 c11_9 c11_10 c11_11
  obtain ⟨c0, c1, c2, c3, c4, c5, c6, c7, c8, c9, c10, c11⟩ := HKB.out w11 (Below.refl _ _)
  go_wp2_with fail
  have HC0 := hid (fun (w' : World) (h : Below w11.heap.size w11 w') => add_z (Zc.out.now h) (Zb.out.now h) (by omega) (by omega))
  go_region_held3 (fun w' => w'.cell? ⟨w.heap.size, 0, none⟩ = some (.bool na) ∧ w'.cell? ⟨w.heap.size, 1, none⟩ = some (.slice aa xa.length ca) ∧ w'.cell? ⟨w.heap.size + 1, 0, none⟩ = some (.bool nb) ∧ w'.cell? ⟨w.heap.size + 1, 1, none⟩ = some (.slice ab xb.length cb) ∧ w'.cell? ⟨w.heap.size + 1 + 1, 0, none⟩ = some (.bool nc) ∧ w'.cell? ⟨w.heap.size + 1 + 1, 1, none⟩ = some (.slice ac xc.length cc) ∧ w'.cell? ⟨w1.heap.size, 0, none⟩ = some (.bool nab) ∧ w'.cell? ⟨w1.heap.size, 1, none⟩ = some (.slice aab xab.length cab) ∧ w'.cell? ⟨w2.heap.size, 0, none⟩ = some (.bool nac) ∧ w'.cell? ⟨w2.heap.size, 1, none⟩ = some (.slice aac xac.length cac) ∧ w'.cell? ⟨w3.heap.size, 0, none⟩ = some (.bool nsu) ∧ w'.cell? ⟨w3.heap.size, 1, none⟩ = some (.slice asu xsu.length csu))
    (first
      | ((try dsimp only); refine ⟨?_, ?_, ?_, ?_, ?_, ?_, ?_, ?_, ?_, ?_, ?_, ?_⟩ <;> with_reducible assumption)
      | (refine HKB.out _ ?_; repeat (first | with_reducible exact HP17.out | with_reducible exact HP16.out | with_reducible exact HP15.out | with_reducible exact HP14.out | with_reducible exact HP13.out | with_reducible exact HP12.out | with_reducible exact Below.refl _ _ | with_reducible apply Below.drew | with_reducible apply below_more)))
    (first
      | (go_at_call 10; refine (HC5.out _ ?_).mono ?_; (repeat (first | exact Below.refl _ _ | apply Below.drew | apply below_more)); rintro e17 w17 ⟨rfl, b17⟩; have HB17 : Hid (Below w16.heap.size w16 w17) := below_step (w0 := w16) (by repeat (first | exact Below.refl _ _ | apply Below.drew | apply below_more)) b17; have HP17 := hid (below_step HP16.out HB17.out); obtain ⟨c17_0, c17_1, c17_2, c17_3, c17_4, c17_5, c17_6, c17_7, c17_8, c17_9, c17_10, c17_11⟩ := HKB.out w17 HP17.out)
      | (go_at_call 9; refine (HC4.out _ ?_).mono ?_; (repeat (first | exact Below.refl _ _ | apply Below.drew | apply below_more)); rintro e16 w16 ⟨r16, rfl, m16, b16⟩; have HB16 : Hid (Below w15.heap.size w15 w16) := below_step (w0 := w15) (by repeat (first | exact Below.refl _ _ | apply Below.drew | apply below_more)) b16; have HP16 := hid (below_step HP15.out HB16.out); have M16 := hid m16; obtain ⟨n16, t16, a16, q16, rfl, -, -, -, -, -⟩ := m16; have Y16_Q := hid (M15.out.now HB16.out); have HC5 := hid (fun (w' : World) (h : Below w16.heap.size w16 w') => alike_yes (Y16_Q.out.now h) (M16.out.now h) (by grind)); obtain ⟨c16_0, c16_1, c16_2, c16_3, c16_4, c16_5, c16_6, c16_7, c16_8, c16_9, c16_10, c16_11⟩ := HKB.out w16 HP16.out)
      | (go_at_call 9; refine (HC3.out _ ?_).mono ?_; (repeat (first | exact Below.refl _ _ | apply Below.drew | apply below_more)); rintro e15 w15 ⟨r15, rfl, m15, b15⟩; have HB15 : Hid (Below w14.heap.size w14 w15) := below_step (w0 := w14) (by repeat (first | exact Below.refl _ _ | apply Below.drew | apply below_more)) b15; have HP15 := hid (below_step HP14.out HB15.out); have M15 := hid m15; obtain ⟨n15, t15, a15, q15, rfl, -, -, -, -, -⟩ := m15; have Y15_A := hid (Y14_A.out.now HB15.out); have Y15_SU := hid (Y14_SU.out.now HB15.out); have HC4 := hid (fun (w' : World) (h : Below w15.heap.size w15 w') => add_z (Y15_A.out.now h) (Y15_SU.out.now h).zi (by omega) (by omega)); obtain ⟨c15_0, c15_1, c15_2, c15_3, c15_4, c15_5, c15_6, c15_7, c15_8, c15_9, c15_10, c15_11⟩ := HKB.out w15 HP15.out)
      | (go_at_call 9; refine (HC2.out _ ?_).mono ?_; (repeat (first | exact Below.refl _ _ | apply Below.drew | apply below_more)); rintro e14 w14 ⟨r14, rfl, m14, b14⟩; have HB14 : Hid (Below w13.heap.size w13 w14) := below_step (w0 := w13) (by repeat (first | exact Below.refl _ _ | apply Below.drew | apply below_more)) b14; have HP14 := hid (below_step HP13.out HB14.out); have M14 := hid m14; obtain ⟨n14, t14, a14, q14, rfl, -, -, -, -, -⟩ := m14; have Y14_A := hid (Y13_A.out.now HB14.out); have Y14_C := hid (Y13_C.out.now HB14.out); have Y14_SU := hid (Y13_SU.out.now HB14.out); have HC3 := hid (fun (w' : World) (h : Below w14.heap.size w14 w') => add_z (M14.out.now h).zi (Y14_C.out.now h) (by omega) (by omega)); obtain ⟨c14_0, c14_1, c14_2, c14_3, c14_4, c14_5, c14_6, c14_7, c14_8, c14_9, c14_10, c14_11⟩ := HKB.out w14 HP14.out)
      | (go_at_call 10; refine (HC1.out _ ?_).mono ?_; (repeat (first | exact Below.refl _ _ | apply Below.drew | apply below_more)); rintro e13 w13 ⟨rfl, b13⟩; have HB13 : Hid (Below w12.heap.size w12 w13) := below_step (w0 := w12) (by repeat (first | exact Below.refl _ _ | apply Below.drew | apply below_more)) b13; have HP13 := hid (below_step HP12.out HB13.out); have Y13_A := hid (Y12_A.out.now HB13.out); have Y13_B := hid (Y12_B.out.now HB13.out); have Y13_C := hid (Y12_C.out.now HB13.out); have Y13_SU := hid (Y12_SU.out.now HB13.out); have HC2 := hid (fun (w' : World) (h : Below w13.heap.size w13 w') => add_z (Y13_A.out.now h) (Y13_B.out.now h) (by omega) (by omega)); obtain ⟨c13_0, c13_1, c13_2, c13_3, c13_4, c13_5, c13_6, c13_7, c13_8, c13_9, c13_10, c13_11⟩ := HKB.out w13 HP13.out)
      | (go_at_call 9; refine (HC0.out _ ?_).mono ?_; (repeat (first | exact Below.refl _ _ | apply Below.drew | apply below_more)); rintro e12 w12 ⟨r12, rfl, m12, b12⟩; have HB12 : Hid (Below w11.heap.size w11 w12) := below_step (w0 := w11) (by repeat (first | exact Below.refl _ _ | apply Below.drew | apply below_more)) b12; have HP12 := hid (HB12.out); have M12 := hid m12; obtain ⟨n12, t12, a12, q12, rfl, -, -, -, -, -⟩ := m12; have Y12_A := hid (Za.out.now HB12.out); have Y12_B := hid (Zb.out.now HB12.out); have Y12_C := hid (Zc.out.now HB12.out); have Y12_SU := hid (Zsu.out.now HB12.out); have HC1 := hid (fun (w' : World) (h : Below w12.heap.size w12 w') => alike_yes (Y12_SU.out.now h) (M12.out.now h) (by grind)); obtain ⟨c12_0, c12_1, c12_2, c12_3, c12_4, c12_5, c12_6, c12_7, c12_8, c12_9, c12_10, c12_11⟩ := HKB.out w12 HP12.out))
  replace Za := hid (Za.out.now HP17.out)
  replace Zb := hid (Zb.out.now HP17.out)
  replace Zc := hid (Zc.out.now HP17.out)
  replace Zab := hid (Zab.out.now HP17.out)
  replace Zac := hid (Zac.out.now HP17.out)
  replace Zsu := hid (Zsu.out.now HP17.out)
  replace G := hid (below_step G.out HP17.out)
  replace HKB : Hid (∀ w', Below w17.heap.size w17 w' → w'.cell? ⟨w.heap.size, 0, none⟩ = some (.bool na) ∧ w'.cell? ⟨w.heap.size, 1, none⟩ = some (.slice aa xa.length ca) ∧ w'.cell? ⟨w.heap.size + 1, 0, none⟩ = some (.bool nb) ∧ w'.cell? ⟨w.heap.size + 1, 1, none⟩ = some (.slice ab xb.length cb) ∧ w'.cell? ⟨w.heap.size + 1 + 1, 0, none⟩ = some (.bool nc) ∧ w'.cell? ⟨w.heap.size + 1 + 1, 1, none⟩ = some (.slice ac xc.length cc) ∧ w'.cell? ⟨w1.heap.size, 0, none⟩ = some (.bool nab) ∧ w'.cell? ⟨w1.heap.size, 1, none⟩ = some (.slice aab xab.length cab) ∧ w'.cell? ⟨w2.heap.size, 0, none⟩ = some (.bool nac) ∧ w'.cell? ⟨w2.heap.size, 1, none⟩ = some (.slice aac xac.length cac) ∧ w'.cell? ⟨w3.heap.size, 0, none⟩ = some (.bool nsu) ∧ w'.cell? ⟨w3.heap.size, 1, none⟩ = some (.slice asu xsu.length csu)) := fun w' h => HKB.out w' (below_step HP17.out h)
  clear HC0 HB12 HP12 c12_0 c12_1 c12_2 c12_3 c12_4 c12_5 c12_6 c12_7 c12_8 c12_9 c12_10 c12_11 HC1 HB13 HP13 c13_0 c13_1 c13_2 c13_3 c13_4 c13_5 c13_6 c13_7 c13_8 c13_9 c13_10 c13_11 HC2 HB14 HP14 c14_0 c14_1 c14_2 c14_3 c14_4 c14_5 c14_6 c14_7 c14_8 c14_9 c14_10 c14_11 HC3 HB15 HP15 c15_0 c15_1 c15_2 c15_3 c15_4 c15_5 c15_6 c15_7 c15_8 c15_9 c15_10 c15_11 HC4 HB16 HP16 c16_0 c16_1 c16_2 c16_3 c16_4 c16_5 c16_6 c16_7 c16_8 c16_9 c16_10 c16_11 HC5 HB17 HP17 c17_0 c17_1 c17_2 c17_3 c17_4 c17_5 c17_6 c17_7 c17_8 c17_9 c17_10 c17_11
  obtain ⟨c0, c1, c2, c3, c4, c5, c6, c7, c8, c9, c10, c11⟩ := HKB.out w17 (Below.refl _ _)
  go_wp2_with fail
  clear c0 c1 c2 c3 c4 c5 c6 c7 c8 c9 c10 c11
  refine (neg_z (Za.out)).mono ?_
  rintro e w18 ⟨r, rfl, m, b⟩
  obtain ⟨nn, xn, an, cn, rfl, -, -, -, -, -⟩ := id m
  obtain ⟨W18, hW⟩ : ∃ W18, w18.alloc (duo (.bool nn) (.slice an xn.length cn)) = W18 := ⟨_, rfl⟩
  have kW : Below w18.heap.size w18 W18 := by rw [← hW]; exact (Below.refl _ _).alloc (Nat.le_refl _) _
  have sz18 : W18.heap.size = w18.heap.size + 1 := by rw [← hW]; simp
  have p : Duo W18 w18.heap.size (.bool nn) (.slice an xn.length cn) := by rw [← hW]; exact Duo.new w18 _ _
  replace b := below_step b kW
  replace Za := hid (Za.out.now b)
  replace Zb := hid (Zb.out.now b)
  replace Zc := hid (Zc.out.now b)
  replace Zab := hid (Zab.out.now b)
  replace Zac := hid (Zac.out.now b)
  replace Zsu := hid (Zsu.out.now b)
  replace G := hid (below_step G.out b)
  have Zn := hid (m.now kW)
  replace HKB : Hid (∀ w', Below W18.heap.size W18 w' → w'.cell? ⟨w.heap.size, 0, none⟩ = some (.bool na) ∧ w'.cell? ⟨w.heap.size, 1, none⟩ = some (.slice aa xa.length ca) ∧ w'.cell? ⟨w.heap.size + 1, 0, none⟩ = some (.bool nb) ∧ w'.cell? ⟨w.heap.size + 1, 1, none⟩ = some (.slice ab xb.length cb) ∧ w'.cell? ⟨w.heap.size + 1 + 1, 0, none⟩ = some (.bool nc) ∧ w'.cell? ⟨w.heap.size + 1 + 1, 1, none⟩ = some (.slice ac xc.length cc) ∧ w'.cell? ⟨w1.heap.size, 0, none⟩ = some (.bool nab) ∧ w'.cell? ⟨w1.heap.size, 1, none⟩ = some (.slice aab xab.length cab) ∧ w'.cell? ⟨w2.heap.size, 0, none⟩ = some (.bool nac) ∧ w'.cell? ⟨w2.heap.size, 1, none⟩ = some (.slice aac xac.length cac) ∧ w'.cell? ⟨w3.heap.size, 0, none⟩ = some (.bool nsu) ∧ w'.cell? ⟨w3.heap.size, 1, none⟩ = some (.slice asu xsu.length csu) ∧ w'.cell? ⟨w18.heap.size, 0, none⟩ = some (.bool nn) ∧ w'.cell? ⟨w18.heap.size, 1, none⟩ = some (.slice an xn.length cn)) := fun w' h => by
    obtain ⟨q0, q1, q2, q3, q4, q5, q6, q7, q8, q9, q10, q11⟩ := HKB.out w' (below_step b h)
    have p' := p.below h (by omega)
    exact ⟨q0, q1, q2, q3, q4, q5, q6, q7, q8, q9, q10, q11, p'.c0, p'.c1⟩
  obtain ⟨c0, c1, c2, c3, c4, c5, c6, c7, c8, c9, c10, c11, c12, c13⟩ := HKB.out W18 (Below.refl _ _)
  rw [← hW] at c0 c1 c2 c3 c4 c5 c6 c7 c8 c9 c10 c11 c12 c13
  have EW := hid hW
  clear b kW p hW m
  go_wp2_with fail
  rw [EW.out]
  clear EW
  clear c0 c1 c2 c3 c4 c5 c6 c7 c8 c9 c10 c11 c12 c13
  refine (add_z (Za.out) (Zn.out).zi (by omega) (by omega)).mono ?_
  rintro e w19 ⟨r, rfl, m, b⟩
  obtain ⟨nz, xz, az, cz, rfl, -, -, -, -, -⟩ := id m
  obtain ⟨rfl, rfl⟩ := zm_zero m (by omega)
  simp only [List.length_nil] at m ⊢
  obtain ⟨W19, hW⟩ : ∃ W19, w19.alloc (duo (.bool false) (.slice az 0 cz)) = W19 := ⟨_, rfl⟩
  have kW : Below w19.heap.size w19 W19 := by rw [← hW]; exact (Below.refl _ _).alloc (Nat.le_refl _) _
  have sz19 : W19.heap.size = w19.heap.size + 1 := by rw [← hW]; simp
  have p : Duo W19 w19.heap.size (.bool false) (.slice az 0 cz) := by rw [← hW]; exact Duo.new w19 _ _
  replace b := below_step b kW
  replace Za := hid (Za.out.now b)
  replace Zb := hid (Zb.out.now b)
  replace Zc := hid (Zc.out.now b)
  replace Zab := hid (Zab.out.now b)
  replace Zac := hid (Zac.out.now b)
  replace Zsu := hid (Zsu.out.now b)
  replace Zn := hid (Zn.out.now b)
  replace G := hid (below_step G.out b)
  have Zz := hid (m.now kW)
  replace HKB : Hid (∀ w', Below W19.heap.size W19 w' → w'.cell? ⟨w.heap.size, 0, none⟩ = some (.bool na) ∧ w'.cell? ⟨w.heap.size, 1, none⟩ = some (.slice aa xa.length ca) ∧ w'.cell? ⟨w.heap.size + 1, 0, none⟩ = some (.bool nb) ∧ w'.cell? ⟨w.heap.size + 1, 1, none⟩ = some (.slice ab xb.length cb) ∧ w'.cell? ⟨w.heap.size + 1 + 1, 0, none⟩ = some (.bool nc) ∧ w'.cell? ⟨w.heap.size + 1 + 1, 1, none⟩ = some (.slice ac xc.length cc) ∧ w'.cell? ⟨w1.heap.size, 0, none⟩ = some (.bool nab) ∧ w'.cell? ⟨w1.heap.size, 1, none⟩ = some (.slice aab xab.length cab) ∧ w'.cell? ⟨w2.heap.size, 0, none⟩ = some (.bool nac) ∧ w'.cell? ⟨w2.heap.size, 1, none⟩ = some (.slice aac xac.length cac) ∧ w'.cell? ⟨w3.heap.size, 0, none⟩ = some (.bool nsu) ∧ w'.cell? ⟨w3.heap.size, 1, none⟩ = some (.slice asu xsu.length csu) ∧ w'.cell? ⟨w18.heap.size, 0, none⟩ = some (.bool nn) ∧ w'.cell? ⟨w18.heap.size, 1, none⟩ = some (.slice an xn.length cn) ∧ w'.cell? ⟨w19.heap.size, 0, none⟩ = some (.bool false) ∧ w'.cell? ⟨w19.heap.size, 1, none⟩ = some (.slice az 0 cz)) := fun w' h => by
    obtain ⟨q0, q1, q2, q3, q4, q5, q6, q7, q8, q9, q10, q11, q12, q13⟩ := HKB.out w' (below_step b h)
    have p' := p.below h (by omega)
    exact ⟨q0, q1, q2, q3, q4, q5, q6, q7, q8, q9, q10, q11, q12, q13, p'.c0, p'.c1⟩
  obtain ⟨c0, c1, c2, c3, c4, c5, c6, c7, c8, c9, c10, c11, c12, c13, c14, c15⟩ := HKB.out W19 (Below.refl _ _)
  rw [← hW] at c0 c1 c2 c3 c4 c5 c6 c7 c8 c9 c10 c11 c12 c13 c14 c15
  have EW := hid hW
  clear b kW p hW m
  go_wp2_with fail
  rw [EW.out]
  clear EW
  clear c0 c1 c2 c3 c4 c5 c6 c7 c8 c9 c10 c11 c12 c13 c14 c15
  obtain ⟨c0, c1, c2, c3, c4, c5, c6, c7, c8, c9, c10, c11, c12, c13, c14, c15⟩ := HKB.out W19 (Below.refl _ _)
  have HC0 := hid (fun (w' : World) (h : Below W19.heap.size W19 w') => neg_z (Zn.out.now h).zi)
  go_region_held3 (fun w' => w'.cell? ⟨w.heap.size, 0, none⟩ = some (.bool na) ∧ w'.cell? ⟨w.heap.size, 1, none⟩ = some (.slice aa xa.length ca) ∧ w'.cell? ⟨w.heap.size + 1, 0, none⟩ = some (.bool nb) ∧ w'.cell? ⟨w.heap.size + 1, 1, none⟩ = some (.slice ab xb.length cb) ∧ w'.cell? ⟨w.heap.size + 1 + 1, 0, none⟩ = some (.bool nc) ∧ w'.cell? ⟨w.heap.size + 1 + 1, 1, none⟩ = some (.slice ac xc.length cc) ∧ w'.cell? ⟨w1.heap.size, 0, none⟩ = some (.bool nab) ∧ w'.cell? ⟨w1.heap.size, 1, none⟩ = some (.slice aab xab.length cab) ∧ w'.cell? ⟨w2.heap.size, 0, none⟩ = some (.bool nac) ∧ w'.cell? ⟨w2.heap.size, 1, none⟩ = some (.slice aac xac.length cac) ∧ w'.cell? ⟨w3.heap.size, 0, none⟩ = some (.bool nsu) ∧ w'.cell? ⟨w3.heap.size, 1, none⟩ = some (.slice asu xsu.length csu) ∧ w'.cell? ⟨w18.heap.size, 0, none⟩ = some (.bool nn) ∧ w'.cell? ⟨w18.heap.size, 1, none⟩ = some (.slice an xn.length cn) ∧ w'.cell? ⟨w19.heap.size, 0, none⟩ = some (.bool false) ∧ w'.cell? ⟨w19.heap.size, 1, none⟩ = some (.slice az 0 cz))
    (first
      | ((try dsimp only); refine ⟨?_, ?_, ?_, ?_, ?_, ?_, ?_, ?_, ?_, ?_, ?_, ?_, ?_, ?_, ?_, ?_⟩ <;> with_reducible assumption)
      | (refine HKB.out _ ?_; repeat (first | with_reducible exact HP25.out | with_reducible exact HP24.out | with_reducible exact HP23.out | with_reducible exact HP22.out | with_reducible exact HP21.out | with_reducible exact HP20.out | with_reducible exact Below.refl _ _ | with_reducible apply Below.drew | with_reducible apply below_more)))
    (first
      | (go_at_call 10; refine (HC5.out _ ?_).mono ?_; (repeat (first | exact Below.refl _ _ | apply Below.drew | apply below_more)); rintro e25 w25 ⟨rfl, b25⟩; have HB25 : Hid (Below w24.heap.size w24 w25) := below_step (w0 := w24) (by repeat (first | exact Below.refl _ _ | apply Below.drew | apply below_more)) b25; have HP25 := hid (below_step HP24.out HB25.out); obtain ⟨c25_0, c25_1, c25_2, c25_3, c25_4, c25_5, c25_6, c25_7, c25_8, c25_9, c25_10, c25_11, c25_12, c25_13, c25_14, c25_15⟩ := HKB.out w25 HP25.out)
      | (go_at_call 11; refine (HC4.out _ ?_).mono ?_; (repeat (first | exact Below.refl _ _ | apply Below.drew | apply below_more)); rintro e24 w24 ⟨r24, rfl, m24, b24⟩; have HB24 : Hid (Below w23.heap.size w23 w24) := below_step (w0 := w23) (by repeat (first | exact Below.refl _ _ | apply Below.drew | apply below_more)) b24; have HP24 := hid (below_step HP23.out HB24.out); have M24 := hid m24; obtain ⟨n24, t24, a24, q24, rfl, -, -, -, -, -⟩ := m24; have Y24_T := hid (M23.out.now HB24.out); have HC5 := hid (fun (w' : World) (h : Below w24.heap.size w24 w') => alike_yes (Y24_T.out.now h) (M24.out.now h) (by grind)); obtain ⟨c24_0, c24_1, c24_2, c24_3, c24_4, c24_5, c24_6, c24_7, c24_8, c24_9, c24_10, c24_11, c24_12, c24_13, c24_14, c24_15⟩ := HKB.out w24 HP24.out)
      | (go_at_call 8; refine (HC3.out _ ?_).mono ?_; (repeat (first | exact Below.refl _ _ | apply Below.drew | apply below_more)); rintro e23 w23 ⟨r23, rfl, m23, b23⟩; have HB23 : Hid (Below w22.heap.size w22 w23) := below_step (w0 := w22) (by repeat (first | exact Below.refl _ _ | apply Below.drew | apply below_more)) b23; have HP23 := hid (below_step HP22.out HB23.out); have M23 := hid m23; obtain ⟨n23, t23, a23, q23, rfl, -, -, -, -, -⟩ := m23; have Y23_AB := hid (Y22_AB.out.now HB23.out); have HC4 := hid (fun (w' : World) (h : Below w23.heap.size w23 w') => neg_z (Y23_AB.out.now h).zi); obtain ⟨c23_0, c23_1, c23_2, c23_3, c23_4, c23_5, c23_6, c23_7, c23_8, c23_9, c23_10, c23_11, c23_12, c23_13, c23_14, c23_15⟩ := HKB.out w23 HP23.out)
      | (go_at_call 10; refine (HC2.out _ ?_).mono ?_; (repeat (first | exact Below.refl _ _ | apply Below.drew | apply below_more)); rintro e22 w22 ⟨rfl, b22⟩; have HB22 : Hid (Below w21.heap.size w21 w22) := below_step (w0 := w21) (by repeat (first | exact Below.refl _ _ | apply Below.drew | apply below_more)) b22; have HP22 := hid (below_step HP21.out HB22.out); have Y22_B := hid (Y21_B.out.now HB22.out); have Y22_AB := hid (Y21_AB.out.now HB22.out); have Y22_N := hid (Y21_N.out.now HB22.out); have HC3 := hid (fun (w' : World) (h : Below w22.heap.size w22 w') => mul_z (Y22_N.out.now h).zi (Y22_B.out.now h) (by omega)); obtain ⟨c22_0, c22_1, c22_2, c22_3, c22_4, c22_5, c22_6, c22_7, c22_8, c22_9, c22_10, c22_11, c22_12, c22_13, c22_14, c22_15⟩ := HKB.out w22 HP22.out)
      | (go_at_call 12; refine (HC1.out _ ?_).mono ?_; (repeat (first | exact Below.refl _ _ | apply Below.drew | apply below_more)); rintro e21 w21 ⟨r21, rfl, m21, b21⟩; have HB21 : Hid (Below w20.heap.size w20 w21) := below_step (w0 := w20) (by repeat (first | exact Below.refl _ _ | apply Below.drew | apply below_more)) b21; have HP21 := hid (below_step HP20.out HB21.out); have M21 := hid m21; obtain ⟨n21, t21, a21, q21, rfl, -, -, -, -, -⟩ := m21; have Y21_B := hid (Y20_B.out.now HB21.out); have Y21_AB := hid (Y20_AB.out.now HB21.out); have Y21_N := hid (Y20_N.out.now HB21.out); have Y21_P := hid (M20.out.now HB21.out); have HC2 := hid (fun (w' : World) (h : Below w21.heap.size w21 w') => alike_yes (Y21_P.out.now h) (M21.out.now h) (by grind)); obtain ⟨c21_0, c21_1, c21_2, c21_3, c21_4, c21_5, c21_6, c21_7, c21_8, c21_9, c21_10, c21_11, c21_12, c21_13, c21_14, c21_15⟩ := HKB.out w21 HP21.out)
      | (go_at_call 11; refine (HC0.out _ ?_).mono ?_; (repeat (first | exact Below.refl _ _ | apply Below.drew | apply below_more)); rintro e20 w20 ⟨r20, rfl, m20, b20⟩; have HB20 : Hid (Below W19.heap.size W19 w20) := below_step (w0 := W19) (by repeat (first | exact Below.refl _ _ | apply Below.drew | apply below_more)) b20; have HP20 := hid (HB20.out); have M20 := hid m20; obtain ⟨n20, t20, a20, q20, rfl, -, -, -, -, -⟩ := m20; have Y20_A := hid (Za.out.now HB20.out); have Y20_B := hid (Zb.out.now HB20.out); have Y20_AB := hid (Zab.out.now HB20.out); have Y20_N := hid (Zn.out.now HB20.out); have HC1 := hid (fun (w' : World) (h : Below w20.heap.size w20 w') => least_z (Y20_A.out.now h)); obtain ⟨c20_0, c20_1, c20_2, c20_3, c20_4, c20_5, c20_6, c20_7, c20_8, c20_9, c20_10, c20_11, c20_12, c20_13, c20_14, c20_15⟩ := HKB.out w20 HP20.out))
  replace Za := hid (Za.out.now HP25.out)
  replace Zb := hid (Zb.out.now HP25.out)
  replace Zc := hid (Zc.out.now HP25.out)
  replace Zab := hid (Zab.out.now HP25.out)
  replace Zac := hid (Zac.out.now HP25.out)
  replace Zsu := hid (Zsu.out.now HP25.out)
  replace Zn := hid (Zn.out.now HP25.out)
  replace Zz := hid (Zz.out.now HP25.out)
  replace G := hid (below_step G.out HP25.out)
  replace HKB : Hid (∀ w', Below w25.heap.size w25 w' → w'.cell? ⟨w.heap.size, 0, none⟩ = some (.bool na) ∧ w'.cell? ⟨w.heap.size, 1, none⟩ = some (.slice aa xa.length ca) ∧ w'.cell? ⟨w.heap.size + 1, 0, none⟩ = some (.bool nb) ∧ w'.cell? ⟨w.heap.size + 1, 1, none⟩ = some (.slice ab xb.length cb) ∧ w'.cell? ⟨w.heap.size + 1 + 1, 0, none⟩ = some (.bool nc) ∧ w'.cell? ⟨w.heap.size + 1 + 1, 1, none⟩ = some (.slice ac xc.length cc) ∧ w'.cell? ⟨w1.heap.size, 0, none⟩ = some (.bool nab) ∧ w'.cell? ⟨w1.heap.size, 1, none⟩ = some (.slice aab xab.length cab) ∧ w'.cell? ⟨w2.heap.size, 0, none⟩ = some (.bool nac) ∧ w'.cell? ⟨w2.heap.size, 1, none⟩ = some (.slice aac xac.length cac) ∧ w'.cell? ⟨w3.heap.size, 0, none⟩ = some (.bool nsu) ∧ w'.cell? ⟨w3.heap.size, 1, none⟩ = some (.slice asu xsu.length csu) ∧ w'.cell? ⟨w18.heap.size, 0, none⟩ = some (.bool nn) ∧ w'.cell? ⟨w18.heap.size, 1, none⟩ = some (.slice an xn.length cn) ∧ w'.cell? ⟨w19.heap.size, 0, none⟩ = some (.bool false) ∧ w'.cell? ⟨w19.heap.size, 1, none⟩ = some (.slice az 0 cz)) := fun w' h => HKB.out w' (below_step HP25.out h)
  clear HC0 HB20 HP20 c20_0 c20_1 c20_2 c20_3 c20_4 c20_5 c20_6 c20_7 c20_8 c20_9 c20_10 c20_11 c20_12 c20_13 c20_14 c20_15 HC1 HB21 HP21 c21_0 c21_1 c21_2 c21_3 c21_4 c21_5 c21_6 c21_7 c21_8 c21_9 c21_10 c21_11 c21_12 c21_13 c21_14 c21_15 HC2 HB22 HP22 c22_0 c22_1 c22_2 c22_3 c22_4 c22_5 c22_6 c22_7 c22_8 c22_9 c22_10 c22_11 c22_12 c22_13 c22_14 c22_15 HC3 HB23 HP23 c23_0 c23_1 c23_2 c23_3 c23_4 c23_5 c23_6 c23_7 c23_8 c23_9 c23_10 c23_11 c23_12 c23_13 c23_14 c23_15 HC4 HB24 HP24 c24_0 c24_1 c24_2 c24_3 c24_4 c24_5 c24_6 c24_7 c24_8 c24_9 c24_10 c24_11 c24_12 c24_13 c24_14 c24_15 HC5 HB25 HP25 c25_0 c25_1 c25_2 c25_3 c25_4 c25_5 c25_6 c25_7 c25_8 c25_9 c25_10 c25_11 c25_12 c25_13 c25_14 c25_15
  obtain ⟨c0, c1, c2, c3, c4, c5, c6, c7, c8, c9, c10, c11, c12, c13, c14, c15⟩ := HKB.out w25 (Below.refl _ _)
  go_wp2_with fail
  clear c0 c1 c2 c3 c4 c5 c6 c7 c8 c9 c10 c11 c12 c13 c14 c15
  refine (sub_z (Za.out) (Zb.out) (by omega) (by omega)).mono ?_
  rintro e w26 ⟨r, rfl, m, b⟩
  obtain ⟨nd, xd, ad, cd, rfl, -, -, -, -, -⟩ := id m
  obtain ⟨W26, hW⟩ : ∃ W26, w26.alloc (duo (.bool nd) (.slice ad xd.length cd)) = W26 := ⟨_, rfl⟩
  have kW : Below w26.heap.size w26 W26 := by rw [← hW]; exact (Below.refl _ _).alloc (Nat.le_refl _) _
  have sz26 : W26.heap.size = w26.heap.size + 1 := by rw [← hW]; simp
  have p : Duo W26 w26.heap.size (.bool nd) (.slice ad xd.length cd) := by rw [← hW]; exact Duo.new w26 _ _
  replace b := below_step b kW
  replace Za := hid (Za.out.now b)
  replace Zb := hid (Zb.out.now b)
  replace Zc := hid (Zc.out.now b)
  replace Zab := hid (Zab.out.now b)
  replace Zac := hid (Zac.out.now b)
  replace Zsu := hid (Zsu.out.now b)
  replace Zn := hid (Zn.out.now b)
  replace Zz := hid (Zz.out.now b)
  replace G := hid (below_step G.out b)
  have Zd := hid (m.now kW)
  replace HKB : Hid (∀ w', Below W26.heap.size W26 w' → w'.cell? ⟨w.heap.size, 0, none⟩ = some (.bool na) ∧ w'.cell? ⟨w.heap.size, 1, none⟩ = some (.slice aa xa.length ca) ∧ w'.cell? ⟨w.heap.size + 1, 0, none⟩ = some (.bool nb) ∧ w'.cell? ⟨w.heap.size + 1, 1, none⟩ = some (.slice ab xb.length cb) ∧ w'.cell? ⟨w.heap.size + 1 + 1, 0, none⟩ = some (.bool nc) ∧ w'.cell? ⟨w.heap.size + 1 + 1, 1, none⟩ = some (.slice ac xc.length cc) ∧ w'.cell? ⟨w1.heap.size, 0, none⟩ = some (.bool nab) ∧ w'.cell? ⟨w1.heap.size, 1, none⟩ = some (.slice aab xab.length cab) ∧ w'.cell? ⟨w2.heap.size, 0, none⟩ = some (.bool nac) ∧ w'.cell? ⟨w2.heap.size, 1, none⟩ = some (.slice aac xac.length cac) ∧ w'.cell? ⟨w3.heap.size, 0, none⟩ = some (.bool nsu) ∧ w'.cell? ⟨w3.heap.size, 1, none⟩ = some (.slice asu xsu.length csu) ∧ w'.cell? ⟨w18.heap.size, 0, none⟩ = some (.bool nn) ∧ w'.cell? ⟨w18.heap.size, 1, none⟩ = some (.slice an xn.length cn) ∧ w'.cell? ⟨w19.heap.size, 0, none⟩ = some (.bool false) ∧ w'.cell? ⟨w19.heap.size, 1, none⟩ = some (.slice az 0 cz) ∧ w'.cell? ⟨w26.heap.size, 0, none⟩ = some (.bool nd) ∧ w'.cell? ⟨w26.heap.size, 1, none⟩ = some (.slice ad xd.length cd)) := fun w' h => by
    obtain ⟨q0, q1, q2, q3, q4, q5, q6, q7, q8, q9, q10, q11, q12, q13, q14, q15⟩ := HKB.out w' (below_step b h)
    have p' := p.below h (by omega)
    exact ⟨q0, q1, q2, q3, q4, q5, q6, q7, q8, q9, q10, q11, q12, q13, q14, q15, p'.c0, p'.c1⟩
  obtain ⟨c0, c1, c2, c3, c4, c5, c6, c7, c8, c9, c10, c11, c12, c13, c14, c15, c16, c17⟩ := HKB.out W26 (Below.refl _ _)
  rw [← hW] at c0 c1 c2 c3 c4 c5 c6 c7 c8 c9 c10 c11 c12 c13 c14 c15 c16 c17
  have EW := hid hW
  clear b kW p hW m
  go_wp2_with fail
  rw [EW.out]
  clear EW
  clear c0 c1 c2 c3 c4 c5 c6 c7 c8 c9 c10 c11 c12 c13 c14 c15 c16 c17
  obtain ⟨c0, c1, c2, c3, c4, c5, c6, c7, c8, c9, c10, c11, c12, c13, c14, c15, c16, c17⟩ := HKB.out W26 (Below.refl _ _)
  have HC0 := hid (fun (w' : World) (h : Below W26.heap.size W26 w') => neg_z (Zb.out.now h))
  go_region_held3 (fun w' => w'.cell? ⟨w.heap.size, 0, none⟩ = some (.bool na) ∧ w'.cell? ⟨w.heap.size, 1, none⟩ = some (.slice aa xa.length ca) ∧ w'.cell? ⟨w.heap.size + 1, 0, none⟩ = some (.bool nb) ∧ w'.cell? ⟨w.heap.size + 1, 1, none⟩ = some (.slice ab xb.length cb) ∧ w'.cell? ⟨w.heap.size + 1 + 1, 0, none⟩ = some (.bool nc) ∧ w'.cell? ⟨w.heap.size + 1 + 1, 1, none⟩ = some (.slice ac xc.length cc) ∧ w'.cell? ⟨w1.heap.size, 0, none⟩ = some (.bool nab) ∧ w'.cell? ⟨w1.heap.size, 1, none⟩ = some (.slice aab xab.length cab) ∧ w'.cell? ⟨w2.heap.size, 0, none⟩ = some (.bool nac) ∧ w'.cell? ⟨w2.heap.size, 1, none⟩ = some (.slice aac xac.length cac) ∧ w'.cell? ⟨w3.heap.size, 0, none⟩ = some (.bool nsu) ∧ w'.cell? ⟨w3.heap.size, 1, none⟩ = some (.slice asu xsu.length csu) ∧ w'.cell? ⟨w18.heap.size, 0, none⟩ = some (.bool nn) ∧ w'.cell? ⟨w18.heap.size, 1, none⟩ = some (.slice an xn.length cn) ∧ w'.cell? ⟨w19.heap.size, 0, none⟩ = some (.bool false) ∧ w'.cell? ⟨w19.heap.size, 1, none⟩ = some (.slice az 0 cz) ∧ w'.cell? ⟨w26.heap.size, 0, none⟩ = some (.bool nd) ∧ w'.cell? ⟨w26.heap.size, 1, none⟩ = some (.slice ad xd.length cd))
    (first
      | ((try dsimp only); refine ⟨?_, ?_, ?_, ?_, ?_, ?_, ?_, ?_, ?_, ?_, ?_, ?_, ?_, ?_, ?_, ?_, ?_, ?_⟩ <;> with_reducible assumption)
      | (refine HKB.out _ ?_; repeat (first | with_reducible exact HP32.out | with_reducible exact HP31.out | with_reducible exact HP30.out | with_reducible exact HP29.out | with_reducible exact HP28.out | with_reducible exact HP27.out | with_reducible exact Below.refl _ _ | with_reducible apply Below.drew | with_reducible apply below_more)))
    (first
      | (go_at_call 10; refine (HC5.out _ ?_).mono ?_; (repeat (first | exact Below.refl _ _ | apply Below.drew | apply below_more)); rintro e32 w32 ⟨rfl, b32⟩; have HB32 : Hid (Below w31.heap.size w31 w32) := below_step (w0 := w31) (by repeat (first | exact Below.refl _ _ | apply Below.drew | apply below_more)) b32; have HP32 := hid (below_step HP31.out HB32.out); obtain ⟨c32_0, c32_1, c32_2, c32_3, c32_4, c32_5, c32_6, c32_7, c32_8, c32_9, c32_10, c32_11, c32_12, c32_13, c32_14, c32_15, c32_16, c32_17⟩ := HKB.out w32 HP32.out)
      | (go_at_call 12; refine (HC4.out _ ?_).mono ?_; (repeat (first | exact Below.refl _ _ | apply Below.drew | apply below_more)); rintro e31 w31 ⟨r31, rfl, m31, b31⟩; have HB31 : Hid (Below w30.heap.size w30 w31) := below_step (w0 := w30) (by repeat (first | exact Below.refl _ _ | apply Below.drew | apply below_more)) b31; have HP31 := hid (below_step HP30.out HB31.out); have M31 := hid m31; obtain ⟨n31, t31, a31, q31, rfl, -, -, -, -, -⟩ := m31; have Y31_T := hid (M30.out.now HB31.out); have HC5 := hid (fun (w' : World) (h : Below w31.heap.size w31 w') => alike_yes (Y31_T.out.now h) (M31.out.now h) (by grind)); obtain ⟨c31_0, c31_1, c31_2, c31_3, c31_4, c31_5, c31_6, c31_7, c31_8, c31_9, c31_10, c31_11, c31_12, c31_13, c31_14, c31_15, c31_16, c31_17⟩ := HKB.out w31 HP31.out)
      | (go_at_call 9; refine (HC3.out _ ?_).mono ?_; (repeat (first | exact Below.refl _ _ | apply Below.drew | apply below_more)); rintro e30 w30 ⟨r30, rfl, m30, b30⟩; have HB30 : Hid (Below w29.heap.size w29 w30) := below_step (w0 := w29) (by repeat (first | exact Below.refl _ _ | apply Below.drew | apply below_more)) b30; have HP30 := hid (below_step HP29.out HB30.out); have M30 := hid m30; obtain ⟨n30, t30, a30, q30, rfl, -, -, -, -, -⟩ := m30; have Y30_A := hid (Y29_A.out.now HB30.out); have HC4 := hid (fun (w' : World) (h : Below w30.heap.size w30 w') => least_z (Y30_A.out.now h)); obtain ⟨c30_0, c30_1, c30_2, c30_3, c30_4, c30_5, c30_6, c30_7, c30_8, c30_9, c30_10, c30_11, c30_12, c30_13, c30_14, c30_15, c30_16, c30_17⟩ := HKB.out w30 HP30.out)
      | (go_at_call 10; refine (HC2.out _ ?_).mono ?_; (repeat (first | exact Below.refl _ _ | apply Below.drew | apply below_more)); rintro e29 w29 ⟨rfl, b29⟩; have HB29 : Hid (Below w28.heap.size w28 w29) := below_step (w0 := w28) (by repeat (first | exact Below.refl _ _ | apply Below.drew | apply below_more)) b29; have HP29 := hid (below_step HP28.out HB29.out); have Y29_A := hid (Y28_A.out.now HB29.out); have Y29_B := hid (Y28_B.out.now HB29.out); have Y29_D := hid (Y28_D.out.now HB29.out); have HC3 := hid (fun (w' : World) (h : Below w29.heap.size w29 w') => add_z (Y29_D.out.now h).zi (Y29_B.out.now h) (by omega) (by omega)); obtain ⟨c29_0, c29_1, c29_2, c29_3, c29_4, c29_5, c29_6, c29_7, c29_8, c29_9, c29_10, c29_11, c29_12, c29_13, c29_14, c29_15, c29_16, c29_17⟩ := HKB.out w29 HP29.out)
      | (go_at_call 9; refine (HC1.out _ ?_).mono ?_; (repeat (first | exact Below.refl _ _ | apply Below.drew | apply below_more)); rintro e28 w28 ⟨r28, rfl, m28, b28⟩; have HB28 : Hid (Below w27.heap.size w27 w28) := below_step (w0 := w27) (by repeat (first | exact Below.refl _ _ | apply Below.drew | apply below_more)) b28; have HP28 := hid (below_step HP27.out HB28.out); have M28 := hid m28; obtain ⟨n28, t28, a28, q28, rfl, -, -, -, -, -⟩ := m28; have Y28_A := hid (Y27_A.out.now HB28.out); have Y28_B := hid (Y27_B.out.now HB28.out); have Y28_D := hid (Y27_D.out.now HB28.out); have HC2 := hid (fun (w' : World) (h : Below w28.heap.size w28 w') => alike_yes (Y28_D.out.now h) (M28.out.now h) (by grind)); obtain ⟨c28_0, c28_1, c28_2, c28_3, c28_4, c28_5, c28_6, c28_7, c28_8, c28_9, c28_10, c28_11, c28_12, c28_13, c28_14, c28_15, c28_16, c28_17⟩ := HKB.out w28 HP28.out)
      | (go_at_call 11; refine (HC0.out _ ?_).mono ?_; (repeat (first | exact Below.refl _ _ | apply Below.drew | apply below_more)); rintro e27 w27 ⟨r27, rfl, m27, b27⟩; have HB27 : Hid (Below W26.heap.size W26 w27) := below_step (w0 := W26) (by repeat (first | exact Below.refl _ _ | apply Below.drew | apply below_more)) b27; have HP27 := hid (HB27.out); have M27 := hid m27; obtain ⟨n27, t27, a27, q27, rfl, -, -, -, -, -⟩ := m27; have Y27_A := hid (Za.out.now HB27.out); have Y27_B := hid (Zb.out.now HB27.out); have Y27_D := hid (Zd.out.now HB27.out); have HC1 := hid (fun (w' : World) (h : Below w27.heap.size w27 w') => add_z (Y27_A.out.now h) (M27.out.now h).zi (by omega) (by omega)); obtain ⟨c27_0, c27_1, c27_2, c27_3, c27_4, c27_5, c27_6, c27_7, c27_8, c27_9, c27_10, c27_11, c27_12, c27_13, c27_14, c27_15, c27_16, c27_17⟩ := HKB.out w27 HP27.out))
  replace Za := hid (Za.out.now HP32.out)
  replace Zb := hid (Zb.out.now HP32.out)
  replace Zc := hid (Zc.out.now HP32.out)
  replace Zab := hid (Zab.out.now HP32.out)
  replace Zac := hid (Zac.out.now HP32.out)
  replace Zsu := hid (Zsu.out.now HP32.out)
  replace Zn := hid (Zn.out.now HP32.out)
  replace Zz := hid (Zz.out.now HP32.out)
  replace Zd := hid (Zd.out.now HP32.out)
  replace G := hid (below_step G.out HP32.out)
  replace HKB : Hid (∀ w', Below w32.heap.size w32 w' → w'.cell? ⟨w.heap.size, 0, none⟩ = some (.bool na) ∧ w'.cell? ⟨w.heap.size, 1, none⟩ = some (.slice aa xa.length ca) ∧ w'.cell? ⟨w.heap.size + 1, 0, none⟩ = some (.bool nb) ∧ w'.cell? ⟨w.heap.size + 1, 1, none⟩ = some (.slice ab xb.length cb) ∧ w'.cell? ⟨w.heap.size + 1 + 1, 0, none⟩ = some (.bool nc) ∧ w'.cell? ⟨w.heap.size + 1 + 1, 1, none⟩ = some (.slice ac xc.length cc) ∧ w'.cell? ⟨w1.heap.size, 0, none⟩ = some (.bool nab) ∧ w'.cell? ⟨w1.heap.size, 1, none⟩ = some (.slice aab xab.length cab) ∧ w'.cell? ⟨w2.heap.size, 0, none⟩ = some (.bool nac) ∧ w'.cell? ⟨w2.heap.size, 1, none⟩ = some (.slice aac xac.length cac) ∧ w'.cell? ⟨w3.heap.size, 0, none⟩ = some (.bool nsu) ∧ w'.cell? ⟨w3.heap.size, 1, none⟩ = some (.slice asu xsu.length csu) ∧ w'.cell? ⟨w18.heap.size, 0, none⟩ = some (.bool nn) ∧ w'.cell? ⟨w18.heap.size, 1, none⟩ = some (.slice an xn.length cn) ∧ w'.cell? ⟨w19.heap.size, 0, none⟩ = some (.bool false) ∧ w'.cell? ⟨w19.heap.size, 1, none⟩ = some (.slice az 0 cz) ∧ w'.cell? ⟨w26.heap.size, 0, none⟩ = some (.bool nd) ∧ w'.cell? ⟨w26.heap.size, 1, none⟩ = some (.slice ad xd.length cd)) := fun w' h => HKB.out w' (below_step HP32.out h)
  clear HC0 HB27 HP27 c27_0 c27_1 c27_2 c27_3 c27_4 c27_5 c27_6 c27_7 c27_8 c27_9 c27_10 c27_11 c27_12 c27_13 c27_14 c27_15 c27_16 c27_17 HC1 HB28 HP28 c28_0 c28_1 c28_2 c28_3 c28_4 c28_5 c28_6 c28_7 c28_8 c28_9 c28_10 c28_11 c28_12 c28_13 c28_14 c28_15 c28_16 c28_17 HC2 HB29 HP29 c29_0 c29_1 c29_2 c29_3 c29_4 c29_5 c29_6 c29_7 c29_8 c29_9 c29_10 c29_11 c29_12 c29_13 c29_14 c29_15 c29_16 c29_17 HC3 HB30 HP30 c30_0 c30_1 c30_2 c30_3 c30_4 c30_5 c30_6 c30_7 c30_8 c30_9 c30_10 c30_11 c30_12 c30_13 c30_14 c30_15 c30_16 c30_17 HC4 HB31 HP31 c31_0 c31_1 c31_2 c31_3 c31_4 c31_5 c31_6 c31_7 c31_8 c31_9 c31_10 c31_11 c31_12 c31_13 c31_14 c31_15 c31_16 c31_17 HC5 HB32 HP32 c32_0 c32_1 c32_2 c32_3 c32_4 c32_5 c32_6 c32_7 c32_8 c32_9 c32_10 c32_11 c32_12 c32_13 c32_14 c32_15 c32_16 c32_17
  obtain ⟨c0, c1, c2, c3, c4, c5, c6, c7, c8, c9, c10, c11, c12, c13, c14, c15, c16, c17⟩ := HKB.out w32 (Below.refl _ _)
  go_wp2_with fail
  have HC0 := hid (fun (w' : World) (h : Below w32.heap.size w32 w') => mulAdd_z (Za.out.now h) (Zb.out.now h) (Zc.out.now h) (by omega) (by omega))
  go_region_held3 (fun w' => w'.cell? ⟨w.heap.size, 0, none⟩ = some (.bool na) ∧ w'.cell? ⟨w.heap.size, 1, none⟩ = some (.slice aa xa.length ca) ∧ w'.cell? ⟨w.heap.size + 1, 0, none⟩ = some (.bool nb) ∧ w'.cell? ⟨w.heap.size + 1, 1, none⟩ = some (.slice ab xb.length cb) ∧ w'.cell? ⟨w.heap.size + 1 + 1, 0, none⟩ = some (.bool nc) ∧ w'.cell? ⟨w.heap.size + 1 + 1, 1, none⟩ = some (.slice ac xc.length cc) ∧ w'.cell? ⟨w1.heap.size, 0, none⟩ = some (.bool nab) ∧ w'.cell? ⟨w1.heap.size, 1, none⟩ = some (.slice aab xab.length cab) ∧ w'.cell? ⟨w2.heap.size, 0, none⟩ = some (.bool nac) ∧ w'.cell? ⟨w2.heap.size, 1, none⟩ = some (.slice aac xac.length cac) ∧ w'.cell? ⟨w3.heap.size, 0, none⟩ = some (.bool nsu) ∧ w'.cell? ⟨w3.heap.size, 1, none⟩ = some (.slice asu xsu.length csu) ∧ w'.cell? ⟨w18.heap.size, 0, none⟩ = some (.bool nn) ∧ w'.cell? ⟨w18.heap.size, 1, none⟩ = some (.slice an xn.length cn) ∧ w'.cell? ⟨w19.heap.size, 0, none⟩ = some (.bool false) ∧ w'.cell? ⟨w19.heap.size, 1, none⟩ = some (.slice az 0 cz) ∧ w'.cell? ⟨w26.heap.size, 0, none⟩ = some (.bool nd) ∧ w'.cell? ⟨w26.heap.size, 1, none⟩ = some (.slice ad xd.length cd))
    (first
      | ((try dsimp only); refine ⟨?_, ?_, ?_, ?_, ?_, ?_, ?_, ?_, ?_, ?_, ?_, ?_, ?_, ?_, ?_, ?_, ?_, ?_⟩ <;> with_reducible assumption)
      | (refine HKB.out _ ?_; repeat (first | with_reducible exact HP42.out | with_reducible exact HP41.out | with_reducible exact HP40.out | with_reducible exact HP39.out | with_reducible exact HP38.out | with_reducible exact HP37.out | with_reducible exact HP36.out | with_reducible exact HP35.out | with_reducible exact HP34.out | with_reducible exact HP33.out | with_reducible exact Below.refl _ _ | with_reducible apply Below.drew | with_reducible apply below_more)))
    (first
      | (go_at_call 10; refine (HC9.out _ ?_).mono ?_; (repeat (first | exact Below.refl _ _ | apply Below.drew | apply below_more)); rintro e42 w42 ⟨rfl, b42⟩; have HB42 : Hid (Below w41.heap.size w41 w42) := below_step (w0 := w41) (by repeat (first | exact Below.refl _ _ | apply Below.drew | apply below_more)) b42; have HP42 := hid (below_step HP41.out HB42.out); obtain ⟨c42_0, c42_1, c42_2, c42_3, c42_4, c42_5, c42_6, c42_7, c42_8, c42_9, c42_10, c42_11, c42_12, c42_13, c42_14, c42_15, c42_16, c42_17⟩ := HKB.out w42 HP42.out)
      | (go_at_call 12; refine (HC8.out _ ?_).mono ?_; (repeat (first | exact Below.refl _ _ | apply Below.drew | apply below_more)); rintro e41 w41 ⟨r41, rfl, m41, b41⟩; have HB41 : Hid (Below w40.heap.size w40 w41) := below_step (w0 := w40) (by repeat (first | exact Below.refl _ _ | apply Below.drew | apply below_more)) b41; have HP41 := hid (below_step HP40.out HB41.out); have M41 := hid m41; obtain ⟨n41, t41, a41, q41, rfl, -, -, -, -, -⟩ := m41; have Y41_X := hid (M40.out.now HB41.out); have HC9 := hid (fun (w' : World) (h : Below w41.heap.size w41 w') => alike_yes (Y41_X.out.now h) (M41.out.now h) (by grind)); obtain ⟨c41_0, c41_1, c41_2, c41_3, c41_4, c41_5, c41_6, c41_7, c41_8, c41_9, c41_10, c41_11, c41_12, c41_13, c41_14, c41_15, c41_16, c41_17⟩ := HKB.out w41 HP41.out)
      | (go_at_call 8; refine (HC7.out _ ?_).mono ?_; (repeat (first | exact Below.refl _ _ | apply Below.drew | apply below_more)); rintro e40 w40 ⟨r40, rfl, m40, b40⟩; have HB40 : Hid (Below w39.heap.size w39 w40) := below_step (w0 := w39) (by repeat (first | exact Below.refl _ _ | apply Below.drew | apply below_more)) b40; have HP40 := hid (below_step HP39.out HB40.out); have M40 := hid m40; obtain ⟨n40, t40, a40, q40, rfl, -, -, -, -, -⟩ := m40; have Y40_A := hid (Y39_A.out.now HB40.out); have HC8 := hid (fun (w' : World) (h : Below w40.heap.size w40 w') => least_z (Y40_A.out.now h)); obtain ⟨c40_0, c40_1, c40_2, c40_3, c40_4, c40_5, c40_6, c40_7, c40_8, c40_9, c40_10, c40_11, c40_12, c40_13, c40_14, c40_15, c40_16, c40_17⟩ := HKB.out w40 HP40.out)
      | (go_at_call 16; refine (HC6.out _ ?_).mono ?_; (repeat (first | exact Below.refl _ _ | apply Below.drew | apply below_more)); rintro e39 w39 ⟨r39, rfl, m39, b39⟩; have HB39 : Hid (Below w38.heap.size w38 w39) := below_step (w0 := w38) (by repeat (first | exact Below.refl _ _ | apply Below.drew | apply below_more)) b39; have HP39 := hid (below_step HP38.out HB39.out); have M39 := hid m39; obtain ⟨n39, t39, a39, q39, rfl, -, -, -, -, -⟩ := m39; have Y39_A := hid (Y38_A.out.now HB39.out); have HC7 := hid (fun (w' : World) (h : Below w39.heap.size w39 w') => mul_z (Y39_A.out.now h) (M39.out.now h).zi (by omega)); obtain ⟨c39_0, c39_1, c39_2, c39_3, c39_4, c39_5, c39_6, c39_7, c39_8, c39_9, c39_10, c39_11, c39_12, c39_13, c39_14, c39_15, c39_16, c39_17⟩ := HKB.out w39 HP39.out)
      | (go_at_call 10; refine (HC5.out _ ?_).mono ?_; (repeat (first | exact Below.refl _ _ | apply Below.drew | apply below_more)); rintro e38 w38 ⟨rfl, b38⟩; have HB38 : Hid (Below w37.heap.size w37 w38) := below_step (w0 := w37) (by repeat (first | exact Below.refl _ _ | apply Below.drew | apply below_more)) b38; have HP38 := hid (below_step HP37.out HB38.out); have Y38_A := hid (Y37_A.out.now HB38.out); have HC6 := hid (fun (w' : World) (h : Below w38.heap.size w38 w') => of_z (n := 1) (by omega) (by omega) w'); obtain ⟨c38_0, c38_1, c38_2, c38_3, c38_4, c38_5, c38_6, c38_7, c38_8, c38_9, c38_10, c38_11, c38_12, c38_13, c38_14, c38_15, c38_16, c38_17⟩ := HKB.out w38 HP38.out)
      | (go_at_call 9; refine (HC4.out _ ?_).mono ?_; (repeat (first | exact Below.refl _ _ | apply Below.drew | apply below_more)); rintro e37 w37 ⟨r37, rfl, m37, b37⟩; have HB37 : Hid (Below w36.heap.size w36 w37) := below_step (w0 := w36) (by repeat (first | exact Below.refl _ _ | apply Below.drew | apply below_more)) b37; have HP37 := hid (below_step HP36.out HB37.out); have M37 := hid m37; obtain ⟨n37, t37, a37, q37, rfl, -, -, -, -, -⟩ := m37; have Y37_A := hid (Y36_A.out.now HB37.out); have Y37_T := hid (M36.out.now HB37.out); have HC5 := hid (fun (w' : World) (h : Below w37.heap.size w37 w') => alike_yes (Y37_T.out.now h) (M37.out.now h) (by simp [zsum])); obtain ⟨c37_0, c37_1, c37_2, c37_3, c37_4, c37_5, c37_6, c37_7, c37_8, c37_9, c37_10, c37_11, c37_12, c37_13, c37_14, c37_15, c37_16, c37_17⟩ := HKB.out w37 HP37.out)
      | (go_at_call 15; refine (HC3.out _ ?_).mono ?_; (repeat (first | exact Below.refl _ _ | apply Below.drew | apply below_more)); rintro e36 w36 ⟨r36, rfl, m36, b36⟩; have HB36 : Hid (Below w35.heap.size w35 w36) := below_step (w0 := w35) (by repeat (first | exact Below.refl _ _ | apply Below.drew | apply below_more)) b36; have HP36 := hid (below_step HP35.out HB36.out); have M36 := hid m36; obtain ⟨n36, t36, a36, q36, rfl, -, -, -, -, -⟩ := m36; have Y36_A := hid (Y35_A.out.now HB36.out); have Y36_SU := hid (Y35_SU.out.now HB36.out); have HC4 := hid (fun (w' : World) (h : Below w36.heap.size w36 w') => add_z (Y36_A.out.now h) (Y36_SU.out.now h).zi (by omega) (by omega)); obtain ⟨c36_0, c36_1, c36_2, c36_3, c36_4, c36_5, c36_6, c36_7, c36_8, c36_9, c36_10, c36_11, c36_12, c36_13, c36_14, c36_15, c36_16, c36_17⟩ := HKB.out w36 HP36.out)
      | (go_at_call 10; refine (HC2.out _ ?_).mono ?_; (repeat (first | exact Below.refl _ _ | apply Below.drew | apply below_more)); rintro e35 w35 ⟨rfl, b35⟩; have HB35 : Hid (Below w34.heap.size w34 w35) := below_step (w0 := w34) (by repeat (first | exact Below.refl _ _ | apply Below.drew | apply below_more)) b35; have HP35 := hid (below_step HP34.out HB35.out); have Y35_A := hid (Y34_A.out.now HB35.out); have Y35_B := hid (Y34_B.out.now HB35.out); have Y35_C := hid (Y34_C.out.now HB35.out); have Y35_SU := hid (Y34_SU.out.now HB35.out); have HC3 := hid (fun (w' : World) (h : Below (w35.alloc (.cells #[(.bool na), (.slice aa xa.length ca), (.bool nb), (.slice ab xb.length cb), (.bool nc), (.slice ac xc.length cc)] 24)).heap.size (w35.alloc (.cells #[(.bool na), (.slice aa xa.length ca), (.bool nb), (.slice ab xb.length cb), (.bool nc), (.slice ac xc.length cc)] 24)) w') => sum_z ((zl_three (Y35_A.out) (Y35_B.out) (Y35_C.out)).now h) (by simp)); obtain ⟨c35_0, c35_1, c35_2, c35_3, c35_4, c35_5, c35_6, c35_7, c35_8, c35_9, c35_10, c35_11, c35_12, c35_13, c35_14, c35_15, c35_16, c35_17⟩ := HKB.out w35 HP35.out)
      | (go_at_call 9; refine (HC1.out _ ?_).mono ?_; (repeat (first | exact Below.refl _ _ | apply Below.drew | apply below_more)); rintro e34 w34 ⟨r34, rfl, m34, b34⟩; have HB34 : Hid (Below w33.heap.size w33 w34) := below_step (w0 := w33) (by repeat (first | exact Below.refl _ _ | apply Below.drew | apply below_more)) b34; have HP34 := hid (below_step HP33.out HB34.out); have M34 := hid m34; obtain ⟨n34, t34, a34, q34, rfl, -, -, -, -, -⟩ := m34; have Y34_A := hid (Y33_A.out.now HB34.out); have Y34_B := hid (Y33_B.out.now HB34.out); have Y34_C := hid (Y33_C.out.now HB34.out); have Y34_SU := hid (Y33_SU.out.now HB34.out); have Y34_P := hid (M33.out.now HB34.out); have HC2 := hid (fun (w' : World) (h : Below w34.heap.size w34 w') => alike_yes (Y34_P.out.now h) (M34.out.now h) (by grind)); obtain ⟨c34_0, c34_1, c34_2, c34_3, c34_4, c34_5, c34_6, c34_7, c34_8, c34_9, c34_10, c34_11, c34_12, c34_13, c34_14, c34_15, c34_16, c34_17⟩ := HKB.out w34 HP34.out)
      | (go_at_call 14; refine (HC0.out _ ?_).mono ?_; (repeat (first | exact Below.refl _ _ | apply Below.drew | apply below_more)); rintro e33 w33 ⟨r33, rfl, m33, b33⟩; have HB33 : Hid (Below w32.heap.size w32 w33) := below_step (w0 := w32) (by repeat (first | exact Below.refl _ _ | apply Below.drew | apply below_more)) b33; have HP33 := hid (HB33.out); have M33 := hid m33; obtain ⟨n33, t33, a33, q33, rfl, -, -, -, -, -⟩ := m33; have Y33_A := hid (Za.out.now HB33.out); have Y33_B := hid (Zb.out.now HB33.out); have Y33_C := hid (Zc.out.now HB33.out); have Y33_AB := hid (Zab.out.now HB33.out); have Y33_SU := hid (Zsu.out.now HB33.out); have HC1 := hid (fun (w' : World) (h : Below w33.heap.size w33 w') => add_z (Y33_AB.out.now h).zi (Y33_C.out.now h) (by omega) (by omega)); obtain ⟨c33_0, c33_1, c33_2, c33_3, c33_4, c33_5, c33_6, c33_7, c33_8, c33_9, c33_10, c33_11, c33_12, c33_13, c33_14, c33_15, c33_16, c33_17⟩ := HKB.out w33 HP33.out))
  replace Za := hid (Za.out.now HP42.out)
  replace Zb := hid (Zb.out.now HP42.out)
  replace Zc := hid (Zc.out.now HP42.out)
  replace Zab := hid (Zab.out.now HP42.out)
  replace Zac := hid (Zac.out.now HP42.out)
  replace Zsu := hid (Zsu.out.now HP42.out)
  replace Zn := hid (Zn.out.now HP42.out)
  replace Zz := hid (Zz.out.now HP42.out)
  replace Zd := hid (Zd.out.now HP42.out)
  replace G := hid (below_step G.out HP42.out)
  replace HKB : Hid (∀ w', Below w42.heap.size w42 w' → w'.cell? ⟨w.heap.size, 0, none⟩ = some (.bool na) ∧ w'.cell? ⟨w.heap.size, 1, none⟩ = some (.slice aa xa.length ca) ∧ w'.cell? ⟨w.heap.size + 1, 0, none⟩ = some (.bool nb) ∧ w'.cell? ⟨w.heap.size + 1, 1, none⟩ = some (.slice ab xb.length cb) ∧ w'.cell? ⟨w.heap.size + 1 + 1, 0, none⟩ = some (.bool nc) ∧ w'.cell? ⟨w.heap.size + 1 + 1, 1, none⟩ = some (.slice ac xc.length cc) ∧ w'.cell? ⟨w1.heap.size, 0, none⟩ = some (.bool nab) ∧ w'.cell? ⟨w1.heap.size, 1, none⟩ = some (.slice aab xab.length cab) ∧ w'.cell? ⟨w2.heap.size, 0, none⟩ = some (.bool nac) ∧ w'.cell? ⟨w2.heap.size, 1, none⟩ = some (.slice aac xac.length cac) ∧ w'.cell? ⟨w3.heap.size, 0, none⟩ = some (.bool nsu) ∧ w'.cell? ⟨w3.heap.size, 1, none⟩ = some (.slice asu xsu.length csu) ∧ w'.cell? ⟨w18.heap.size, 0, none⟩ = some (.bool nn) ∧ w'.cell? ⟨w18.heap.size, 1, none⟩ = some (.slice an xn.length cn) ∧ w'.cell? ⟨w19.heap.size, 0, none⟩ = some (.bool false) ∧ w'.cell? ⟨w19.heap.size, 1, none⟩ = some (.slice az 0 cz) ∧ w'.cell? ⟨w26.heap.size, 0, none⟩ = some (.bool nd) ∧ w'.cell? ⟨w26.heap.size, 1, none⟩ = some (.slice ad xd.length cd)) := fun w' h => HKB.out w' (below_step HP42.out h)
  clear HC0 HB33 HP33 c33_0 c33_1 c33_2 c33_3 c33_4 c33_5 c33_6 c33_7 c33_8 c33_9 c33_10 c33_11 c33_12 c33_13 c33_14 c33_15 c33_16 c33_17 HC1 HB34 HP34 c34_0 c34_1 c34_2 c34_3 c34_4 c34_5 c34_6 c34_7 c34_8 c34_9 c34_10 c34_11 c34_12 c34_13 c34_14 c34_15 c34_16 c34_17 HC2 HB35 HP35 c35_0 c35_1 c35_2 c35_3 c35_4 c35_5 c35_6 c35_7 c35_8 c35_9 c35_10 c35_11 c35_12 c35_13 c35_14 c35_15 c35_16 c35_17 HC3 HB36 HP36 c36_0 c36_1 c36_2 c36_3 c36_4 c36_5 c36_6 c36_7 c36_8 c36_9 c36_10 c36_11 c36_12 c36_13 c36_14 c36_15 c36_16 c36_17 HC4 HB37 HP37 c37_0 c37_1 c37_2 c37_3 c37_4 c37_5 c37_6 c37_7 c37_8 c37_9 c37_10 c37_11 c37_12 c37_13 c37_14 c37_15 c37_16 c37_17 HC5 HB38 HP38 c38_0 c38_1 c38_2 c38_3 c38_4 c38_5 c38_6 c38_7 c38_8 c38_9 c38_10 c38_11 c38_12 c38_13 c38_14 c38_15 c38_16 c38_17 HC6 HB39 HP39 c39_0 c39_1 c39_2 c39_3 c39_4 c39_5 c39_6 c39_7 c39_8 c39_9 c39_10 c39_11 c39_12 c39_13 c39_14 c39_15 c39_16 c39_17 HC7 HB40 HP40 c40_0 c40_1 c40_2 c40_3 c40_4 c40_5 c40_6 c40_7 c40_8 c40_9 c40_10 c40_11 c40_12 c40_13 c40_14 c40_15 c40_16 c40_17 HC8 HB41 HP41 c41_0 c41_1 c41_2 c41_3 c41_4 c41_5 c41_6 c41_7 c41_8 c41_9 c41_10 c41_11 c41_12 c41_13 c41_14 c41_15 c41_16 c41_17 HC9 HB42 HP42 c42_0 c42_1 c42_2 c42_3 c42_4 c42_5 c42_6 c42_7 c42_8 c42_9 c42_10 c42_11 c42_12 c42_13 c42_14 c42_15 c42_16 c42_17
  obtain ⟨c0, c1, c2, c3, c4, c5, c6, c7, c8, c9, c10, c11, c12, c13, c14, c15, c16, c17⟩ := HKB.out w42 (Below.refl _ _)
  go_wp2
  go_ret
  exact ⟨rfl, G.out⟩
end Go.Proofs.YtgdlecghpbckpaaDoor
