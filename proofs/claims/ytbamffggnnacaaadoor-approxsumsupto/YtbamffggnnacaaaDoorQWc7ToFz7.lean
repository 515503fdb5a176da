/-
  QWc7ToFz7: Wc7, Fz7, joined.
-/
import Derived.Test.YtbamffggnnacaaaDoorQWh7ToZStore

/- Wc7 -/
namespace Go.Proofs.YtbamffggnnacaaaDoor
open Go.RowKit
set_option linter.unusedVariables false

/-- An integer against a float64, in steps of 2^-1074. -/
def acv (z : Int) (b : Nat) : Int := cmpI (z * ((2 ^ E7 : Nat) : Int)) (sv b)
theorem scale_lt {z W F P t : Int} (hP : 0 < P) (hF : F = W * P + t) (h0 : 0 ≤ t) (ht : t < P) : (z < W → z * P < F) ∧ (W < z → F < z * P) := by
  subst hF
  constructor
  · intro h
    have := Int.mul_le_mul_of_nonneg_right (show z ≤ W - 1 by omega) (Int.le_of_lt hP)
    rw [Int.sub_mul] at this
    omega
  · intro h
    have := Int.mul_le_mul_of_nonneg_right (show W + 1 ≤ z by omega) (Int.le_of_lt hP)
    rw [Int.add_mul] at this
    omega
theorem acv_far {z : Int} {b : Nat} (h : cmpI z (swv b) ≠ 0) : cmpI z (swv b) = acv z b := by
  have hP : (0 : Int) < ((2 ^ E7 : Nat) : Int) := by have := Nat.two_pow_pos E7; omega
  have hd : ((fv (rg b) : Nat) : Int) = ((wv (rg b) : Nat) : Int) * ((2 ^ E7 : Nat) : Int) + ((fv (rg b) % 2 ^ E7 : Nat) : Int) := by
    unfold wv
    rw [← Int.natCast_mul, ← Int.natCast_add, Nat.mul_comm, Nat.div_add_mod]
  have hm : ((fv (rg b) % 2 ^ E7 : Nat) : Int) < ((2 ^ E7 : Nat) : Int) := Int.ofNat_lt.2 (Nat.mod_lt (fv (rg b)) (Nat.two_pow_pos E7))
  have h0 : (0 : Int) ≤ ((fv (rg b) % 2 ^ E7 : Nat) : Int) := Int.natCast_nonneg _
  unfold acv
  unfold swv at h ⊢
  unfold sv
  generalize ((fv (rg b) % 2 ^ E7 : Nat) : Int) = t at *
  generalize ((2 ^ E7 : Nat) : Int) = P at *
  generalize ((wv (rg b) : Nat) : Int) = W at *
  generalize ((fv (rg b) : Nat) : Int) = F at *
  generalize ng b = N at *
  cases N
  · simp only [Bool.false_eq_true, if_false] at h ⊢
    obtain ⟨k1, k2⟩ := scale_lt (z := z) hP hd h0 hm
    rcases Int.lt_trichotomy z W with q | q | q
    · rw [cmpI_lt q, cmpI_lt (k1 q)]
    · subst q; exact absurd (cmpI_self z) h
    · rw [cmpI_gt q, cmpI_gt (k2 q)]
  · simp only [if_true] at h ⊢
    obtain ⟨k1, k2⟩ := scale_lt (z := -z) hP hd h0 hm
    rw [Int.neg_mul] at k1 k2
    rcases Int.lt_trichotomy z (-W) with q | q | q
    · have := k2 (by omega)
      rw [cmpI_lt q, cmpI_lt (by omega)]
    · subst q; exact absurd (cmpI_self (-W)) h
    · have := k1 (by omega)
      rw [cmpI_gt q, cmpI_gt (by omega)]
theorem acv_near {z : Int} {b : Nat} (hf : Fin7 b) (h : z = swv b) : cmpI (sv (trw b)) (sv b) = acv z b := by
  unfold acv; rw [(trw_sv hf).2, h]
theorem cmpI_none {a b : Int} (h : cmpI a b = 0) : a = b := by
  rcases Int.lt_trichotomy a b with q | q | q
  · rw [cmpI_lt q] at h; omega
  · exact q
  · rw [cmpI_gt q] at h; omega
set_option maxHeartbeats 3200000 in
set_option maxRecDepth 100000 in
theorem acmp_fin {w : World} {v : Value} {z : Int} {k b : Nat} (h : Zi w v z k) (hb : b < 2 ^ 64) (hf : Fin7 b) :
    Calls Tryd.prog 16 #[v, .float .f64 b] w fun e w' => e = .returned (.tuple #[.int .i64 (acv z b), .int .i64 0]) ∧ Below w.heap.size w w' := by
  have hv := h
  obtain ⟨n, xs, a, c, rfl, s0, z0, k0⟩ := h
  obtain ⟨W0, hW0⟩ : ∃ W0, w.alloc (duo (.bool n) (.slice a xs.length c)) = W0 := ⟨_, rfl⟩
  have b0 : Below w.heap.size w W0 := by rw [← hW0]; exact (Below.refl _ _).alloc (Nat.le_refl _) _
  have sz0 : W0.heap.size = w.heap.size + 1 := by rw [← hW0]; simp
  have p0 : Duo W0 w.heap.size (.bool n) (.slice a xs.length c) := by rw [← hW0]; exact Duo.new w _ _
  have HKB : Hid (∀ w', Below W0.heap.size W0 w' → w'.cell? ⟨w.heap.size, 0, none⟩ = some (.bool n) ∧ w'.cell? ⟨w.heap.size, 1, none⟩ = some (.slice a xs.length c)) := fun w' h => ⟨(p0.below h (by omega)).c0, (p0.below h (by omega)).c1⟩
  obtain ⟨i0, i1⟩ := HKB.out W0 (Below.refl _ _)
  have HV := hid (hv.now b0)
  have HN := hid (isNaN_f b W0)
  have hf' := hf
  unfold Fin7 at hf'
  rw [show isN b = false from decide_eq_false (by omega)] at HN
  have HI := hid (isInf_0 hb W0)
  rw [decide_eq_false (show ¬ rg b = 2047 * 2 ^ 52 by omega)] at HI
  have HW : Hid (∀ w', Calls Tryd.prog 34 #[.float .f64 b, .int .i64 0] w' (GivesZ w' (swv b) 16386)) := fun w' => by
    have := whole_any hb hf (n := 0) (by omega) (by omega) w'
    rw [swn_zero] at this
    exact this
  have HC : Hid (∀ (w' : World) (v' u' : Value) (k' l' : Nat), Zi w' v' z k' → Zi w' u' (swv b) l' → _) := fun w' v' u' k' l' h h' => cmp_z h h'
  have HT : Hid (∀ w', Calls Tryd.prog 37 #[.float .f64 b] w' fun e w'' => e = .returned (.float .f64 (trw b)) ∧ w'' = w') := fun w' => trunc_f hf w'
  have HF : Hid (∀ w', Calls Tryd.prog 36 #[.float .f64 (trw b), .float .f64 b] w' fun e w'' => e = .returned (.int .i64 (cmpI (sv (trw b)) (sv b))) ∧ w'' = w') := fun w' => fcompare_any (trw_sv hf).1 hf w'
  have HA := hid (@acv_far z b)
  have HE : Hid (z = swv b → cmpI (sv (trw b)) (sv b) = acv z b) := fun e => acv_near hf e
  have HQ : Hid (cmpI z (swv b) = 0 → z = swv b) := fun e => cmpI_none e
  generalize trw b = T at *
  generalize acv z b = A at *
  generalize hs : swv b = s at *
  generalize cmpI z s = C at *
  have EW := hid hW0
  have B0 := hid b0
  clear hv p0 hW0 b0 s0 z0 hf hf' hs
  by_cases hc : C = 0
  · have q0 : (C != 0) = false := by rw [hc]; rfl
    rw [HE.out (HQ.out hc)] at HF
    clear HA HE HQ hc
    go_enter Tryd.func16, Tryd.ntmps16
    go_wp2_with fail
    rw [EW.out]
    refine HN.out.mono ?_
    rintro e W0 ⟨rfl, rfl⟩
    go_wp2_with fail
    refine HI.out.mono ?_
    rintro e W0 ⟨rfl, rfl⟩
    go_wp2_with fail
    go_region_with (first
      | (have _ := HP1; go_at_call 19; refine (HC.out _ _ _ _ _ (V1.out.now ?_) (M1.out.zi.now ?_)).mono ?_; (repeat (first | exact Below.refl _ _ | apply Below.drew)); (repeat (first | exact Below.refl _ _ | apply Below.drew)); rintro e2 w2 ⟨rfl, b2⟩; have HB2 : Hid (Below w1.heap.size w1 w2) := below_step (w0 := w1) (by repeat (first | exact Below.refl _ _ | apply Below.drew)) b2; have HP2 := hid (below_step HP1.out HB2.out); obtain ⟨c20, c21⟩ := HKB.out w2 HP2.out)
      | (go_at_call 34; refine (HW.out _).mono ?_; rintro e1 w1 ⟨r1, rfl, m1, b1⟩; have HP1 : Hid (Below W0.heap.size W0 w1) := below_step (w0 := W0) (by repeat (first | exact Below.refl _ _ | apply Below.drew)) b1; have M1 := hid m1; obtain ⟨n1, t1, a1, q1, rfl, -, -, -, -, -⟩ := m1; have V1 := hid (HV.out.now HP1.out); obtain ⟨c10, c11⟩ := HKB.out w1 HP1.out))
    all_goals (try go_wp2_with fail)
    all_goals (refine (HT.out _).mono ?_)
    all_goals (rintro e w3 ⟨rfl, rfl⟩)
    all_goals (go_wp2_with fail)
    all_goals (refine (HF.out _).mono ?_)
    all_goals (rintro e w3 ⟨rfl, rfl⟩)
    all_goals (go_wp2)
    all_goals go_ret2
    all_goals exact ⟨rfl, below_step B0.out HP2.out⟩
  · have q0 : (C != 0) = true := by rw [bne_iff_ne]; exact hc
    have e0 : C = A := HA.out hc
    subst e0
    clear HA HE HQ HT HF
    go_enter Tryd.func16, Tryd.ntmps16
    go_wp2_with fail
    rw [EW.out]
    refine HN.out.mono ?_
    rintro e W0 ⟨rfl, rfl⟩
    go_wp2_with fail
    refine HI.out.mono ?_
    rintro e W0 ⟨rfl, rfl⟩
    go_wp2_with fail
    go_region_with (first
      | (have _ := HP1; go_at_call 19; refine (HC.out _ _ _ _ _ (V1.out.now ?_) (M1.out.zi.now ?_)).mono ?_; (repeat (first | exact Below.refl _ _ | apply Below.drew)); (repeat (first | exact Below.refl _ _ | apply Below.drew)); rintro e2 w2 ⟨rfl, b2⟩; have HB2 : Hid (Below w1.heap.size w1 w2) := below_step (w0 := w1) (by repeat (first | exact Below.refl _ _ | apply Below.drew)) b2; have HP2 := hid (below_step HP1.out HB2.out); obtain ⟨c20, c21⟩ := HKB.out w2 HP2.out)
      | (go_at_call 34; refine (HW.out _).mono ?_; rintro e1 w1 ⟨r1, rfl, m1, b1⟩; have HP1 : Hid (Below W0.heap.size W0 w1) := below_step (w0 := W0) (by repeat (first | exact Below.refl _ _ | apply Below.drew)) b1; have M1 := hid m1; obtain ⟨n1, t1, a1, q1, rfl, -, -, -, -, -⟩ := m1; have V1 := hid (HV.out.now HP1.out); obtain ⟨c10, c11⟩ := HKB.out w1 HP1.out))
    all_goals (try go_wp2)
    all_goals go_ret2
    all_goals exact ⟨rfl, below_step B0.out HP2.out⟩
end Go.Proofs.YtbamffggnnacaaaDoor

/- Fz7 -/
namespace Go.Proofs.YtbamffggnnacaaaDoor
open Go.RowKit
set_option linter.unusedVariables false

theorem nbits_ne {N : Nat} (h : N ≠ 0) : nbits N 0 ≠ 0 := by
  by_cases h1 : N ≤ 2 ^ 53
  · obtain ⟨a, b⟩ := near_small h1
    intro e
    rw [e, fv_zero] at a
    have := Nat.mul_ne_zero h (show 2 ^ E7 ≠ 0 by have := Nat.two_pow_pos E7; omega)
    omega
  · by_cases h2 : N < lim7
    · have := (near_prev (by omega) h2).1; omega
    · rw [near_inf (by omega)]; omega
/-- A size with the sign of A. -/
def sgd (A : Int) (x : Nat) : Int := if A < 0 then -(x : Int) else (x : Int)
theorem sgd_gap (A : Int) (x : Nat) : (A - sgd A x).natAbs = gap A.natAbs x := by
  unfold sgd gap
  split <;> omega
theorem zw_eq {A : Int} (h : A ≠ 0) : zw A 0 = (if A < 0 then 2 ^ 63 else 0) + nbits A.natAbs 0 := by
  have hn := nbits_ne (show A.natAbs ≠ 0 by omega)
  unfold zw fw
  by_cases q : A < 0
  · rw [if_pos ⟨by simpa using q, hn⟩, if_pos q]
  · rw [if_neg (by simp [q]), if_neg q, Nat.zero_add]
theorem swv_zero : swv 0 = 0 := by
  unfold swv wv
  rw [show rg 0 = 0 from rfl, fv_zero, Nat.zero_div]
  rfl
theorem zw_zero : zw 0 0 = 0 := by decide
/-- A word of the same sign. -/
theorem sg_word {A : Int} {r : Nat} (h : r < 2 ^ 63) : rg ((if A < 0 then 2 ^ 63 else 0) + r) = r ∧ swv ((if A < 0 then 2 ^ 63 else 0) + r) = sgd A (wv r) ∧ sv ((if A < 0 then 2 ^ 63 else 0) + r) = sgd A (fv r) := by
  unfold swv sv sgd
  by_cases q : A < 0
  · rw [if_pos q, (rg_neg h).1, (rg_neg h).2]
    simp [q]
  · rw [if_neg q, Nat.zero_add, (rg_pos h).1, (rg_pos h).2]
    simp [q]
theorem zw_lt (A : Int) : zw A 0 < 2 ^ 64 := by
  have := nbits_le A.natAbs 0
  unfold zw fw
  split <;> omega
theorem near_f_inf {A : Int} (h : lim7 ≤ A.natAbs) : infAs (zw A 0) (cmpI A 0) = true := by
  have hp : 0 < lim7 := Nat.lt_of_lt_of_le (Nat.two_pow_pos _) lim_low
  have h0 : A ≠ 0 := by rintro rfl; simp at h; omega
  rw [zw_eq h0, near_inf h]
  unfold infAs
  by_cases q : A < 0
  · rw [if_pos q, (rg_neg (by omega)).1, (rg_neg (by omega)).2, cmpI_lt q]; decide
  · rw [if_neg q, Nat.zero_add, (rg_pos (by omega)).1, (rg_pos (by omega)).2, cmpI_gt (by omega)]; decide
theorem near_f_fin {A : Int} (h : A.natAbs < lim7) : Fin7 (zw A 0) ∧ ((zw A 0 : Int) == 9223372036854775808) = false ∧ acv (swv (zw A 0)) (zw A 0) = 0 := by
  by_cases h0 : A = 0
  · subst h0
    rw [zw_zero]
    refine ⟨by decide, by decide, ?_⟩
    unfold acv
    rw [swv_zero, sv_zero, Int.zero_mul]; rfl
  · obtain ⟨f1, f2⟩ := near_fin h
    have hn := nbits_ne (show A.natAbs ≠ 0 by omega)
    rw [zw_eq h0]
    obtain ⟨s1, s2, s3⟩ := sg_word (A := A) (r := nbits A.natAbs 0) (by omega)
    refine ⟨?_, ?_, ?_⟩
    · unfold Fin7; rw [s1]; exact f1
    · rw [beq_eq_false_iff_ne]
      split <;> omega
    · unfold acv
      rw [s2, s3, f2]
      unfold sgd
      by_cases q : A < 0
      · rw [if_pos q, if_pos q, Int.natCast_mul, Int.neg_mul]; exact cmpI_self _
      · rw [if_neg q, if_neg q, Int.natCast_mul]; exact cmpI_self _
theorem near_f_small {A : Int} (h : A.natAbs ≤ 2 ^ 53) : A - swv (zw A 0) = 0 := by
  by_cases h0 : A = 0
  · subst h0; rw [zw_zero, swv_zero]; rfl
  · obtain ⟨f1, f2⟩ := near_small h
    have hw : wv (nbits A.natAbs 0) = A.natAbs := by unfold wv; rw [f1, Nat.mul_div_cancel _ (Nat.two_pow_pos _)]
    rw [zw_eq h0, (sg_word (A := A) (r := nbits A.natAbs 0) (by omega)).2.1, hw]
    unfold sgd
    split <;> omega
/-- No neighbour is nearer. -/
structure Nb (A : Int) (X : Nat) : Prop where
  lt : X < 2 ^ 64
  le : cmpI (((A - swv (zw A 0)).natAbs : Nat) : Int) (((A - swv X).natAbs : Nat) : Int) ≤ 0
  ev : cmpI (((A - swv (zw A 0)).natAbs : Nat) : Int) (((A - swv X).natAbs : Nat) : Int) = 0 → zw A 0 % 2 = 0
theorem cmpI_le {a b : Int} (h : a ≤ b) : cmpI a b ≤ 0 := by unfold cmpI; split <;> (try split) <;> omega
theorem near_f_next {A : Int} (h53 : 2 ^ 53 < A.natAbs) (h : A.natAbs < lim7) : Nb A (zw A 0 + 1) := by
  have h0 : A ≠ 0 := by rintro rfl; simp at h53
  have hl := (near_fin h).1
  obtain ⟨g1, g2⟩ := near_next h53 h
  have e1 := zw_eq h0
  obtain ⟨-, s2, -⟩ := sg_word (A := A) (r := nbits A.natAbs 0) (by omega)
  obtain ⟨-, t2, -⟩ := sg_word (A := A) (r := nbits A.natAbs 0 + 1) (by omega)
  rw [← Nat.add_assoc] at t2
  rw [← e1] at s2 t2
  have hm : zw A 0 % 2 = nbits A.natAbs 0 % 2 := by rw [e1]; split <;> omega
  refine ⟨by rw [e1]; split <;> omega, ?_, ?_⟩
  · rw [s2, t2, sgd_gap, sgd_gap]
    exact cmpI_le (by omega)
  · rw [s2, t2, sgd_gap, sgd_gap, hm]
    intro e
    exact g2 (by have := cmpI_none e; omega)
theorem near_f_prev {A : Int} (h53 : 2 ^ 53 < A.natAbs) (h : A.natAbs < lim7) : 1 ≤ zw A 0 ∧ Fin7 (zw A 0 - 1) ∧ Nb A (zw A 0 - 1) := by
  have h0 : A ≠ 0 := by rintro rfl; simp at h53
  have hl := (near_fin h).1
  obtain ⟨g0, g1, g2⟩ := near_prev h53 h
  have e1 := zw_eq h0
  obtain ⟨-, s2, -⟩ := sg_word (A := A) (r := nbits A.natAbs 0) (by omega)
  obtain ⟨t1, t2, -⟩ := sg_word (A := A) (r := nbits A.natAbs 0 - 1) (by omega)
  rw [← Nat.add_sub_assoc (by omega)] at t1 t2
  rw [← e1] at s2 t1 t2
  have hm : zw A 0 % 2 = nbits A.natAbs 0 % 2 := by rw [e1]; split <;> omega
  refine ⟨by rw [e1]; omega, by unfold Fin7; rw [t1]; omega, by rw [e1]; split <;> omega, ?_, ?_⟩
  · rw [s2, t2, sgd_gap, sgd_gap]
    exact cmpI_le (by omega)
  · rw [s2, t2, sgd_gap, sgd_gap, hm]
    intro e
    exact g2 (by have := cmpI_none e; omega)
end Go.Proofs.YtbamffggnnacaaaDoor
