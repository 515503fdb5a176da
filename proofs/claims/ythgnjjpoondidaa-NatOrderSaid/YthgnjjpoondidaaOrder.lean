/-
  Order: the walk of NatOrder.
-/
import Derived.Test.YthgnjjpoondidaaNow
namespace Go.Proofs.Ythgnjjpoondidaa
open Go.RowKit

theorem cmpI_cases (a b : Int) : (a < b ∧ cmpI a b = -1) ∨ (a = b ∧ cmpI a b = 0) ∨ (b < a ∧ cmpI a b = 1) := by
  rcases Int.lt_trichotomy a b with q | q | q
  · exact .inl ⟨q, cmpI_lt q⟩
  · exact .inr (.inl ⟨q, by rw [q, cmpI_self]⟩)
  · exact .inr (.inr ⟨q, cmpI_gt q⟩)
theorem cmpI_swap (a b : Int) : cmpI b a = -cmpI a b := by
  rcases Int.lt_trichotomy a b with q | q | q
  · rw [cmpI_lt q, cmpI_gt q]; rfl
  · rw [q, cmpI_self]; rfl
  · rw [cmpI_gt q, cmpI_lt q]
theorem cmpI_add (a b c : Int) : cmpI (a + c) (b + c) = cmpI a b := by
  unfold cmpI
  have e1 : (a + c < b + c) ↔ a < b := by omega
  have e2 : (b + c < a + c) ↔ b < a := by omega
  simp only [e1, e2]
theorem same_lst {xs ys : List Int} (hx : WF xs) (hy : WF ys) : same (lst xs) (lst ys) = decide (val xs = val ys) := by
  unfold same
  by_cases h : val xs = val ys
  · rw [decide_eq_true h]
    exact decide_eq_true (canon_inj (canon_lst hx) (canon_lst hy) (by rw [val_lst, val_lst, h]))
  · rw [decide_eq_false h]
    exact decide_eq_false (fun e => h (by rw [← val_lst xs, e, val_lst]))

set_option maxHeartbeats 4000000 in
theorem natOrder_any {w : World} {va vb vc : Value} {xs ys zs : List Int} (ha : Sl w.heap.size w va xs) (hb : Sl w.heap.size w vb ys) (hc : Sl w.heap.size w vc zs)
    (la : xs.length ≤ 17592186043904) (lb : ys.length ≤ 17592186043904) (lc : zs.length ≤ 17592186043904) :
    Calls Try.prog 3 #[va, vb, vc] w fun e w' => e = .returned (.bool true) ∧ Below w.heap.size w w' := by
  have wa := ha.1
  have wb := hb.1
  have HSL := hid (same_lst wa wb)
  have HBA := hid (cmpI_swap (val xs) (val ys))
  have HAA := hid (cmpI_self (val xs))
  have HAD := hid (cmpI_add (val xs) (val ys) (val zs))
  have q1 : cmpI (val [1]) (val [2]) = -1 := by decide +kernel
  have q2 : cmpI (val [0, 1]) (val [7]) = 1 := by decide +kernel
  have Q1 := hid q1
  have Q2 := hid q2
  clear q1 q2
  go_enter Try.func3, Try.ntmps3
  go_wp2_with fail
  refine (awake_any _).mono ?_
  rintro e w1 ⟨rfl, k1⟩
  have a1 := ha.now k1
  have b1 := hb.now k1
  have c1 := hc.now k1
  have g1 := k1
  clear ha hb hc k1
  go_wp2_with fail
  have kk := ((Below.refl w1.heap.size w1).alloc (by simp) (.cells #[.int .u64 1] 25)).alloc (by simp) (.cells #[.int .u64 2] 25)
  have aq := a1.now kk
  have bq := b1.now kk
  have cq := c1.now kk
  have gq := below_step g1 kk
  have q0 := (lit_last w1 [1] #[.int .u64 1] rfl (wf_word (by omega) WF.nil) (by simp) 1 rfl).later (.cells #[.int .u64 2] 25)
  have q1 := lit_last (w1.alloc (.cells #[.int .u64 1] 25)) [2] #[.int .u64 2] rfl (wf_word (by omega) WF.nil) (by simp) 1 rfl
  refine (cmp_now (xs := [1]) (ys := [2]) ?_ ?_).mono ?_
  · simpa using q0
  · simpa using q1
  clear kk a1 b1 c1 g1 q0 q1
  rintro e w2 ⟨rfl, k2⟩
  have a2 := aq.now k2
  have b2 := bq.now k2
  have c2 := cq.now k2
  have g2 := below_step gq k2
  clear aq bq cq gq k2
  rw [Q1.out]
  go_wp2_with fail
  have kk := ((Below.refl w2.heap.size w2).alloc (by simp) (.cells #[.int .u64 0, .int .u64 1] 25)).alloc (by simp) (.cells #[.int .u64 7] 25)
  have aq := a2.now kk
  have bq := b2.now kk
  have cq := c2.now kk
  have gq := below_step g2 kk
  have q0 := (lit_last w2 [0, 1] #[.int .u64 0, .int .u64 1] rfl (wf_word (by omega) (wf_word (by omega) WF.nil)) (by simp) 2 rfl).later (.cells #[.int .u64 7] 25)
  have q1 := lit_last (w2.alloc (.cells #[.int .u64 0, .int .u64 1] 25)) [7] #[.int .u64 7] rfl (wf_word (by omega) WF.nil) (by simp) 1 rfl
  refine (cmp_now (xs := [0, 1]) (ys := [7]) ?_ ?_).mono ?_
  · simpa using q0
  · simpa using q1
  clear kk a2 b2 c2 g2 q0 q1
  rintro e w3 ⟨rfl, k3⟩
  have a3 := aq.now k3
  have b3 := bq.now k3
  have c3 := cq.now k3
  have g3 := below_step gq k3
  clear aq bq cq gq k3
  rw [Q2.out]
  clear Q1 Q2
  go_wp2_with fail
  refine (cmp_now a3 b3).mono ?_
  rintro e w4 ⟨rfl, k4⟩
  have a4 := a3.now k4
  have b4 := b3.now k4
  have c4 := c3.now k4
  have g4 := below_step g3 k4
  clear a3 b3 c3 g3 k4
  go_wp2_with fail
  refine (cmp_now b4 c4).mono ?_
  rintro e w5 ⟨rfl, k5⟩
  have a5 := a4.now k5
  have b5 := b4.now k5
  have c5 := c4.now k5
  have g5 := below_step g4 k5
  clear a4 b4 c4 g4 k5
  go_wp2_with fail
  refine (cmp_now a5 c5).mono ?_
  rintro e w6 ⟨rfl, k6⟩
  have a6 := a5.now k6
  have b6 := b5.now k6
  have c6 := c5.now k6
  have g6 := below_step g5 k6
  clear a5 b5 c5 g5 k6
  rcases cmpI_cases (val xs) (val ys) with ⟨hab, e1⟩ | ⟨hab, e1⟩ | ⟨hab, e1⟩
  · rcases cmpI_cases (val ys) (val zs) with ⟨hbc, e2⟩ | ⟨hbc, e2⟩ | ⟨hbc, e2⟩ <;> rcases cmpI_cases (val xs) (val zs) with ⟨hac, e3⟩ | ⟨hac, e3⟩ | ⟨hac, e3⟩ <;> first | (exfalso; omega) | skip
    all_goals
      rw [e1, e2, e3]
      have HAB := hid hab
      have HE := hid e1
      clear hab hbc hac e1 e2 e3
      go_wp2_with fail
      refine (cmp_now b6 a6).mono ?_
      rintro e w7 ⟨rfl, k7⟩
      have a7 := a6.now k7
      have b7 := b6.now k7
      have c7 := c6.now k7
      have g7 := below_step g6 k7
      clear a6 b6 c6 g6 k7
      rw [HBA.out, HE.out]
      go_wp2_with fail
      refine (cmp_now a7 a7).mono ?_
      rintro e w8 ⟨rfl, k8⟩
      have a8 := a7.now k8
      have b8 := b7.now k8
      have c8 := c7.now k8
      have g8 := below_step g7 k8
      clear a7 b7 c7 g7 k8
      rw [HAA.out]
      go_wp2_with fail
      refine (least_now a8).mono ?_
      rintro e w9 ⟨vl, rfl, l0, k9⟩
      have a9 := a8.now k9
      have b9 := b8.now k9
      have c9 := c8.now k9
      have g9 := below_step g8 k9
      clear a8 b8 c8 g8 k9
      go_wp2_with fail
      refine (least_now b9).mono ?_
      rintro e w10 ⟨vm, rfl, m0, k10⟩
      have a10 := a9.now k10
      have b10 := b9.now k10
      have c10 := c9.now k10
      have l10 := l0.now k10
      have g10 := below_step g9 k10
      clear a9 b9 c9 l0 g9 k10
      go_wp2_with fail
      refine (same_now l10 m0).mono ?_
      rintro e w11 ⟨rfl, k11⟩
      have a11 := a10.now k11
      have b11 := b10.now k11
      have c11 := c10.now k11
      have l11 := l10.now k11
      have g11 := below_step g10 k11
      clear m0 a10 b10 c10 l10 g10 k11
      rw [HSL.out, decide_eq_false (by have := HAB.out; omega)]
      go_wp2_with fail
      refine (sub_not a11 b11 HAB.out).mono ?_
      rintro e w12 ⟨rfl, k12⟩
      have a12 := a11.now k12
      have b12 := b11.now k12
      have c12 := c11.now k12
      have g12 := below_step g11 k12
      clear l11 a11 b11 c11 g11 k12
      go_wp2_with fail
      refine (add_now a12 c12 (by omega) (by omega)).mono ?_
      rintro e w13 ⟨T, vt, rfl, t0, ct, HT, lt, k13⟩
      have a13 := a12.now k13
      have b13 := b12.now k13
      have c13 := c12.now k13
      have g13 := below_step g12 k13
      replace HT := hid HT
      clear a12 b12 c12 g12 k13
      go_wp2_with fail
      refine (add_now b13 c13 (by omega) (by omega)).mono ?_
      rintro e w14 ⟨U, vu, rfl, u0, cu, HU, lu, k14⟩
      have a14 := a13.now k14
      have b14 := b13.now k14
      have c14 := c13.now k14
      have t14 := t0.now k14
      have g14 := below_step g13 k14
      replace HU := hid HU
      clear a13 b13 c13 t0 g13 k14
      go_wp2_with fail
      refine (cmp_now t14 u0).mono ?_
      rintro e w15 ⟨rfl, k15⟩
      have a15 := a14.now k15
      have b15 := b14.now k15
      have c15 := c14.now k15
      have t15 := t14.now k15
      have u15 := u0.now k15
      have g15 := below_step g14 k15
      clear a14 b14 c14 t14 u0 g14 k15
      rw [HT.out, HU.out, HAD.out, HE.out]
      clear HT HU ct cu lt lu
      go_wp2
      go_ret
      exact ⟨rfl, g15⟩
  · rcases cmpI_cases (val ys) (val zs) with ⟨hbc, e2⟩ | ⟨hbc, e2⟩ | ⟨hbc, e2⟩ <;> rcases cmpI_cases (val xs) (val zs) with ⟨hac, e3⟩ | ⟨hac, e3⟩ | ⟨hac, e3⟩ <;> first | (exfalso; omega) | skip
    all_goals
      rw [e1, e2, e3]
      have HAB := hid hab
      have HE := hid e1
      clear hab hbc hac e1 e2 e3
      go_wp2_with fail
      refine (cmp_now b6 a6).mono ?_
      rintro e w7 ⟨rfl, k7⟩
      have a7 := a6.now k7
      have b7 := b6.now k7
      have c7 := c6.now k7
      have g7 := below_step g6 k7
      clear a6 b6 c6 g6 k7
      rw [HBA.out, HE.out]
      go_wp2_with fail
      refine (cmp_now a7 a7).mono ?_
      rintro e w8 ⟨rfl, k8⟩
      have a8 := a7.now k8
      have b8 := b7.now k8
      have c8 := c7.now k8
      have g8 := below_step g7 k8
      clear a7 b7 c7 g7 k8
      rw [HAA.out]
      go_wp2_with fail
      refine (least_now a8).mono ?_
      rintro e w9 ⟨vl, rfl, l0, k9⟩
      have a9 := a8.now k9
      have b9 := b8.now k9
      have c9 := c8.now k9
      have g9 := below_step g8 k9
      clear a8 b8 c8 g8 k9
      go_wp2_with fail
      refine (least_now b9).mono ?_
      rintro e w10 ⟨vm, rfl, m0, k10⟩
      have a10 := a9.now k10
      have b10 := b9.now k10
      have c10 := c9.now k10
      have l10 := l0.now k10
      have g10 := below_step g9 k10
      clear a9 b9 c9 l0 g9 k10
      go_wp2_with fail
      refine (same_now l10 m0).mono ?_
      rintro e w11 ⟨rfl, k11⟩
      have a11 := a10.now k11
      have b11 := b10.now k11
      have c11 := c10.now k11
      have l11 := l10.now k11
      have g11 := below_step g10 k11
      clear m0 a10 b10 c10 l10 g10 k11
      rw [HSL.out, decide_eq_true HAB.out]
      go_wp2_with fail
      refine (sub_now a11 b11 (by have := HAB.out; omega)).mono ?_
      rintro e w12 ⟨D, da, dcap, rfl, d0, cd, HD, ld, k12⟩
      have a12 := a11.now k12
      have b12 := b11.now k12
      have c12 := c11.now k12
      have l12 := l11.now k12
      have g12 := below_step g11 k12
      replace HD := hid HD
      clear a11 b11 c11 l11 g11 k12
      go_wp2_with fail
      refine (add_now b12 d0 (by omega) (by omega)).mono ?_
      rintro e w13 ⟨T, vt, rfl, t0, ct, HT, lt, k13⟩
      have a13 := a12.now k13
      have b13 := b12.now k13
      have c13 := c12.now k13
      have l13 := l12.now k13
      have g13 := below_step g12 k13
      replace HT := hid HT
      clear d0 a12 b12 c12 l12 g12 k13
      go_wp2_with fail
      refine (same_yes t0 l13 (canon_inj ct (canon_lst wa) (by rw [HT.out, val_lst, HD.out]; omega))).mono ?_
      rintro e w14 ⟨rfl, k14⟩
      have a14 := a13.now k14
      have b14 := b13.now k14
      have c14 := c13.now k14
      have g14 := below_step g13 k14
      clear t0 l13 a13 b13 c13 g13 k14
      clear ct HT lt cd HD ld
      go_wp2_with fail
      refine (add_now a14 c14 (by omega) (by omega)).mono ?_
      rintro e w15 ⟨T, vt, rfl, t0, ct, HT, lt, k15⟩
      have a15 := a14.now k15
      have b15 := b14.now k15
      have c15 := c14.now k15
      have g15 := below_step g14 k15
      replace HT := hid HT
      clear a14 b14 c14 g14 k15
      go_wp2_with fail
      refine (add_now b15 c15 (by omega) (by omega)).mono ?_
      rintro e w16 ⟨U, vu, rfl, u0, cu, HU, lu, k16⟩
      have a16 := a15.now k16
      have b16 := b15.now k16
      have c16 := c15.now k16
      have t16 := t0.now k16
      have g16 := below_step g15 k16
      replace HU := hid HU
      clear a15 b15 c15 t0 g15 k16
      go_wp2_with fail
      refine (cmp_now t16 u0).mono ?_
      rintro e w17 ⟨rfl, k17⟩
      have a17 := a16.now k17
      have b17 := b16.now k17
      have c17 := c16.now k17
      have t17 := t16.now k17
      have u17 := u0.now k17
      have g17 := below_step g16 k17
      clear a16 b16 c16 t16 u0 g16 k17
      rw [HT.out, HU.out, HAD.out, HE.out]
      clear HT HU ct cu lt lu
      go_wp2
      go_ret
      exact ⟨rfl, g17⟩
  · rcases cmpI_cases (val ys) (val zs) with ⟨hbc, e2⟩ | ⟨hbc, e2⟩ | ⟨hbc, e2⟩ <;> rcases cmpI_cases (val xs) (val zs) with ⟨hac, e3⟩ | ⟨hac, e3⟩ | ⟨hac, e3⟩ <;> first | (exfalso; omega) | skip
    all_goals
      rw [e1, e2, e3]
      have HAB := hid hab
      have HE := hid e1
      clear hab hbc hac e1 e2 e3
      go_wp2_with fail
      refine (cmp_now b6 a6).mono ?_
      rintro e w7 ⟨rfl, k7⟩
      have a7 := a6.now k7
      have b7 := b6.now k7
      have c7 := c6.now k7
      have g7 := below_step g6 k7
      clear a6 b6 c6 g6 k7
      rw [HBA.out, HE.out]
      go_wp2_with fail
      refine (cmp_now a7 a7).mono ?_
      rintro e w8 ⟨rfl, k8⟩
      have a8 := a7.now k8
      have b8 := b7.now k8
      have c8 := c7.now k8
      have g8 := below_step g7 k8
      clear a7 b7 c7 g7 k8
      rw [HAA.out]
      go_wp2_with fail
      refine (least_now a8).mono ?_
      rintro e w9 ⟨vl, rfl, l0, k9⟩
      have a9 := a8.now k9
      have b9 := b8.now k9
      have c9 := c8.now k9
      have g9 := below_step g8 k9
      clear a8 b8 c8 g8 k9
      go_wp2_with fail
      refine (least_now b9).mono ?_
      rintro e w10 ⟨vm, rfl, m0, k10⟩
      have a10 := a9.now k10
      have b10 := b9.now k10
      have c10 := c9.now k10
      have l10 := l0.now k10
      have g10 := below_step g9 k10
      clear a9 b9 c9 l0 g9 k10
      go_wp2_with fail
      refine (same_now l10 m0).mono ?_
      rintro e w11 ⟨rfl, k11⟩
      have a11 := a10.now k11
      have b11 := b10.now k11
      have c11 := c10.now k11
      have l11 := l10.now k11
      have g11 := below_step g10 k11
      clear m0 a10 b10 c10 l10 g10 k11
      rw [HSL.out, decide_eq_false (by have := HAB.out; omega)]
      go_wp2_with fail
      refine (sub_now a11 b11 (by have := HAB.out; omega)).mono ?_
      rintro e w12 ⟨D, da, dcap, rfl, d0, cd, HD, ld, k12⟩
      have a12 := a11.now k12
      have b12 := b11.now k12
      have c12 := c11.now k12
      have l12 := l11.now k12
      have g12 := below_step g11 k12
      replace HD := hid HD
      clear a11 b11 c11 l11 g11 k12
      go_wp2_with fail
      refine (add_now b12 d0 (by omega) (by omega)).mono ?_
      rintro e w13 ⟨T, vt, rfl, t0, ct, HT, lt, k13⟩
      have a13 := a12.now k13
      have b13 := b12.now k13
      have c13 := c12.now k13
      have l13 := l12.now k13
      have g13 := below_step g12 k13
      replace HT := hid HT
      clear d0 a12 b12 c12 l12 g12 k13
      go_wp2_with fail
      refine (same_yes t0 l13 (canon_inj ct (canon_lst wa) (by rw [HT.out, val_lst, HD.out]; omega))).mono ?_
      rintro e w14 ⟨rfl, k14⟩
      have a14 := a13.now k14
      have b14 := b13.now k14
      have c14 := c13.now k14
      have g14 := below_step g13 k14
      clear t0 l13 a13 b13 c13 g13 k14
      clear ct HT lt cd HD ld
      go_wp2_with fail
      refine (add_now a14 c14 (by omega) (by omega)).mono ?_
      rintro e w15 ⟨T, vt, rfl, t0, ct, HT, lt, k15⟩
      have a15 := a14.now k15
      have b15 := b14.now k15
      have c15 := c14.now k15
      have g15 := below_step g14 k15
      replace HT := hid HT
      clear a14 b14 c14 g14 k15
      go_wp2_with fail
      refine (add_now b15 c15 (by omega) (by omega)).mono ?_
      rintro e w16 ⟨U, vu, rfl, u0, cu, HU, lu, k16⟩
      have a16 := a15.now k16
      have b16 := b15.now k16
      have c16 := c15.now k16
      have t16 := t0.now k16
      have g16 := below_step g15 k16
      replace HU := hid HU
      clear a15 b15 c15 t0 g15 k16
      go_wp2_with fail
      refine (cmp_now t16 u0).mono ?_
      rintro e w17 ⟨rfl, k17⟩
      have a17 := a16.now k17
      have b17 := b16.now k17
      have c17 := c16.now k17
      have t17 := t16.now k17
      have u17 := u0.now k17
      have g17 := below_step g16 k17
      clear a16 b16 c16 t16 u0 g16 k17
      rw [HT.out, HU.out, HAD.out, HE.out]
      clear HT HU ct cu lt lu
      go_wp2
      go_ret
      exact ⟨rfl, g17⟩
end Go.Proofs.Ythgnjjpoondidaa
