/-
  Order2: the walk of MulnatOrder.
-/
import Derived.Test.YtagfekcocdjhlaaDoorWake
import Derived.Test.YtagfekcocdjhlaaDoorTwos
namespace Go.Proofs.YtagfekcocdjhlaaDoor
open Go.RowKit
set_option linter.unusedVariables false

theorem vn_prod {xs ys zs : List Int} (hx : WF xs) (hy : WF ys) (hz : WF zs) (h : val zs = val xs * val ys) : vn zs = vn xs * vn ys := by
  rw [val_vn hx, val_vn hy, val_vn hz, ← Int.natCast_mul] at h
  omega
theorem cmpI_times {a b c : Int} (hc : 0 < c) : cmpI (a * c) (b * c) = cmpI a b := by
  rcases Int.lt_trichotomy a b with q | q | q
  · rw [cmpI_lt q, cmpI_lt (Int.mul_lt_mul_of_pos_right q hc)]
  · rw [q, cmpI_self, cmpI_self]
  · rw [cmpI_gt q, cmpI_gt (Int.mul_lt_mul_of_pos_right q hc)]
theorem bitLen_zero : bitLen 0 = 0 := rfl
theorem bitLen_upto {v s : Nat} (h : v < 2 ^ s) : bitLen v ≤ s := by
  unfold bitLen
  split
  · omega
  · rename_i h0
    have := (Nat.log2_lt h0).2 h
    omega
theorem bitLen_some {v : Nat} (h : v ≠ 0) : 0 < bitLen v := by unfold bitLen; rw [if_neg h]; omega
theorem bitLen_prod {a c : Nat} (ha : a ≠ 0) (hc : c ≠ 0) : bitLen (a * c) = bitLen a + bitLen c ∨ bitLen (a * c) = bitLen a + bitLen c - 1 := by
  obtain ⟨a1, a2⟩ := bitLen_spec a
  obtain ⟨c1, c2⟩ := bitLen_spec c
  have pa := bitLen_some ha
  have pc := bitLen_some hc
  have h1 : a * c < 2 ^ (bitLen a + bitLen c) := by
    rw [Nat.pow_add]
    exact Nat.mul_lt_mul_of_lt_of_le a1 (Nat.le_of_lt c1) (Nat.two_pow_pos _)
  have h2 : 2 ^ (bitLen a - 1 + (bitLen c - 1)) ≤ a * c := by
    rw [Nat.pow_add]
    exact Nat.mul_le_mul (a2 ha) (c2 hc)
  have h3 := bitLen_upto h1
  have h4 : bitLen a - 1 + (bitLen c - 1) < bitLen (a * c) := by
    have := (bitLen_spec (a * c)).1
    exact (Nat.pow_lt_pow_iff_right (by omega : 1 < 2)).1 (Nat.lt_of_le_of_lt h2 this)
  omega
theorem odd2_prod {a c s t : Nat} (ha : Odd2 a s) (hc : Odd2 c t) : Odd2 (a * c) (s + t) := by
  obtain ⟨m, rfl⟩ := ha
  obtain ⟨k, rfl⟩ := hc
  refine ⟨2 * m * k + m + k, ?_⟩
  rw [Nat.pow_add]
  grind
theorem isTwos_prod {a c : Nat} {x y z : Int} (ha : a ≠ 0) (hc : c ≠ 0) (hx : IsTwos a x) (hy : IsTwos c y) (hz : IsTwos (a * c) z) : z = x + y ∧ 0 ≤ x ∧ x ≤ bitLen a ∧ 0 ≤ y ∧ y ≤ bitLen c := by
  rcases hx with ⟨q, _⟩ | ⟨s, rfl, ho⟩
  · exact absurd q ha
  rcases hy with ⟨q, _⟩ | ⟨t, rfl, hp⟩
  · exact absurd q hc
  have le : ∀ {v s : Nat}, Odd2 v s → s ≤ bitLen v := fun {v s} h => by
    have hb := Nat.ge_two_pow_of_testBit (odd2_bit h).1
    have := (bitLen_spec v).1
    exact Nat.le_of_lt ((Nat.pow_lt_pow_iff_right (by omega : 1 < 2)).1 (Nat.lt_of_le_of_lt hb this))
  have hs := le ho
  have ht := le hp
  refine ⟨?_, by omega, by omega, by omega, by omega⟩
  have hop := odd2_prod ho hp
  rcases hz with ⟨q, _⟩ | ⟨r, rfl, hr⟩
  · exact absurd q (odd2_pos hop)
  · have h1 := odd2_bit hop
    have h2 := odd2_bit hr
    rcases Nat.lt_trichotomy r (s + t) with q | q | q
    · rw [h1.2 r q] at h2; cases h2.1
    · omega
    · rw [h2.2 _ q] at h1; cases h1.1
theorem bits_now {w : World} {v : Value} {xs : List Int} (h : Sl w.heap.size w v xs) (hl : xs.length ≤ 35184372088832) :
    Calls Tryd.prog 16 #[v] w fun e w' => ∃ b : Nat, e = .returned (.int .i64 (b : Int)) ∧ b = bitLen (vn xs) ∧ b ≤ 2251799813685248 ∧ Below w.heap.size w w' :=
  (bitLen_any h).mono fun e w' ⟨h1, h2⟩ => ⟨_, h1, rfl, by
    have := bitLen_upto (vn_lt h.1)
    omega, by subst h2; exact Below.refl _ _⟩
theorem twos_to {w : World} {v : Value} {xs : List Int} (h : Sl w.heap.size w v xs) (hT : Tab w) :
    Calls Tryd.prog 18 #[v] w fun e w' => ∃ r, e = .returned (.int .i64 r) ∧ IsTwos (vn xs) r ∧ Below w.heap.size w w' :=
  (twos_any h hT).mono fun e w' ⟨r, h1, h2, h3⟩ => ⟨r, h1, h2, by subst h3; exact Below.refl _ _⟩

set_option maxRecDepth 100000 in
set_option maxHeartbeats 6400000 in
theorem order_c0 {w : World} {va vb vc : Value} {xs ys zs : List Int} (ha : Sl w.heap.size w va xs) (hb : Sl w.heap.size w vb ys) (hc : Sl w.heap.size w vc zs) (hT : Tab w) (la : xs.length ≤ 17592186043904) (lb : ys.length ≤ 17592186043904) (lc : zs.length ≤ 17592186043904) (h0 : Hid (vn zs = 0)) :
    Calls Tryd.prog 4 #[va, vb, vc] w fun e w' => e = .returned (.bool true) ∧ Below w.heap.size w w' := by
  have WA := hid ha.1
  have WB := hid hb.1
  have WC := hid hc.1
  go_enter Tryd.func4, Tryd.ntmps4
  go_wp2_with fail
  refine (wake_any _).mono ?_
  rintro e w1 ⟨rfl, k1⟩
  have a1 := ha.now k1
  have b1 := hb.now k1
  have c1 := hc.now k1
  have T1 := hT.now k1
  have g1 := k1
  clear ha hb hc hT k1
  go_wp2_with fail
  refine (mul_now a1 c1 (by omega)).mono ?_
  rintro e w2 ⟨AC, aca, acc, rfl, ac0, CAC, HAC, lac, k2⟩
  have a2 := a1.now k2
  have b2 := b1.now k2
  have c2 := c1.now k2
  have T2 := T1.now k2
  have g2 := below_step g1 k2
  replace CAC := hid CAC
  replace HAC := hid HAC
  clear a1 b1 c1 T1 g1 k2
  have VAC := hid (vn_prod WA.out WC.out CAC.out.1 HAC.out)
  go_wp2_with fail
  refine (mul_now b2 c2 (by omega)).mono ?_
  rintro e w3 ⟨BC, bca, bcc, rfl, bc0, CBC, HBC, lbc, k3⟩
  have a3 := a2.now k3
  have b3 := b2.now k3
  have c3 := c2.now k3
  have T3 := T2.now k3
  have ac3 := ac0.now k3
  have g3 := below_step g2 k3
  replace CBC := hid CBC
  replace HBC := hid HBC
  clear a2 b2 c2 T2 ac0 g2 k3
  have VBC := hid (vn_prod WB.out WC.out CBC.out.1 HBC.out)
  go_wp2_with fail
  refine (bits_now c3 (by omega)).mono ?_
  rintro e w4 ⟨nc, rfl, Hnc, lnc, k4⟩
  have a4 := a3.now k4
  have b4 := b3.now k4
  have c4 := c3.now k4
  have T4 := T3.now k4
  have ac4 := ac3.now k4
  have bc4 := bc0.now k4
  have g4 := below_step g3 k4
  replace Hnc := hid Hnc
  clear a3 b3 c3 T3 ac3 bc0 g3 k4
  obtain rfl : nc = 0 := by rw [Hnc.out, h0.out]; rfl
  obtain rfl : AC = [] := canon_zero CAC.out (by rw [val_vn CAC.out.1, VAC.out, h0.out]; simp)
  obtain rfl : BC = [] := canon_zero CBC.out (by rw [val_vn CBC.out.1, VBC.out, h0.out]; simp)
  go_wp2
  go_ret
  exact ⟨rfl, g4⟩

set_option maxRecDepth 100000 in
set_option maxHeartbeats 6400000 in
theorem order_a0 {w : World} {va vb vc : Value} {xs ys zs : List Int} (ha : Sl w.heap.size w va xs) (hb : Sl w.heap.size w vb ys) (hc : Sl w.heap.size w vc zs) (hT : Tab w) (la : xs.length ≤ 17592186043904) (lb : ys.length ≤ 17592186043904) (lc : zs.length ≤ 17592186043904) (hc0 : Hid (vn zs ≠ 0)) (h0 : Hid (vn xs = 0)) :
    Calls Tryd.prog 4 #[va, vb, vc] w fun e w' => e = .returned (.bool true) ∧ Below w.heap.size w w' := by
  have WA := hid ha.1
  have WB := hid hb.1
  have WC := hid hc.1
  go_enter Tryd.func4, Tryd.ntmps4
  go_wp2_with fail
  refine (wake_any _).mono ?_
  rintro e w1 ⟨rfl, k1⟩
  have a1 := ha.now k1
  have b1 := hb.now k1
  have c1 := hc.now k1
  have T1 := hT.now k1
  have g1 := k1
  clear ha hb hc hT k1
  go_wp2_with fail
  refine (mul_now a1 c1 (by omega)).mono ?_
  rintro e w2 ⟨AC, aca, acc, rfl, ac0, CAC, HAC, lac, k2⟩
  have a2 := a1.now k2
  have b2 := b1.now k2
  have c2 := c1.now k2
  have T2 := T1.now k2
  have g2 := below_step g1 k2
  replace CAC := hid CAC
  replace HAC := hid HAC
  clear a1 b1 c1 T1 g1 k2
  have VAC := hid (vn_prod WA.out WC.out CAC.out.1 HAC.out)
  go_wp2_with fail
  refine (mul_now b2 c2 (by omega)).mono ?_
  rintro e w3 ⟨BC, bca, bcc, rfl, bc0, CBC, HBC, lbc, k3⟩
  have a3 := a2.now k3
  have b3 := b2.now k3
  have c3 := c2.now k3
  have T3 := T2.now k3
  have ac3 := ac0.now k3
  have g3 := below_step g2 k3
  replace CBC := hid CBC
  replace HBC := hid HBC
  clear a2 b2 c2 T2 ac0 g2 k3
  have VBC := hid (vn_prod WB.out WC.out CBC.out.1 HBC.out)
  go_wp2_with fail
  refine (bits_now c3 (by omega)).mono ?_
  rintro e w4 ⟨nc, rfl, Hnc, lnc, k4⟩
  have a4 := a3.now k4
  have b4 := b3.now k4
  have c4 := c3.now k4
  have T4 := T3.now k4
  have ac4 := ac3.now k4
  have bc4 := bc0.now k4
  have g4 := below_step g3 k4
  replace Hnc := hid Hnc
  clear a3 b3 c3 T3 ac3 bc0 g3 k4
  have hnc : ((nc : Int) == 0) = false := by rw [beq_eq_false_iff_ne]; have := bitLen_some hc0.out; have := Hnc.out; omega
  go_wp2_with fail
  refine (cmp_now ac4 bc4).mono ?_
  rintro e w5 ⟨rfl, k5⟩
  have a5 := a4.now k5
  have b5 := b4.now k5
  have c5 := c4.now k5
  have T5 := T4.now k5
  have ac5 := ac4.now k5
  have g5 := below_step g4 k5
  clear bc4 a4 b4 c4 T4 ac4 g4 k5
  rw [HAC.out, HBC.out, cmpI_times (show 0 < val zs by rw [val_vn WC.out]; have := hc0.out; omega)]
  have hcmp : (cmpI (val xs) (val ys) != cmpI (val xs) (val ys)) = false := by simp
  go_wp2_with fail
  refine (cmp_now a5 b5).mono ?_
  rintro e w6 ⟨rfl, k6⟩
  have a6 := a5.now k6
  have c6 := c5.now k6
  have T6 := T5.now k6
  have ac6 := ac5.now k6
  have g6 := below_step g5 k6
  clear b5 a5 c5 T5 ac5 g5 k6
  go_wp2_with fail
  refine (bits_now a6 (by omega)).mono ?_
  rintro e w7 ⟨na, rfl, Hna, lna, k7⟩
  have a7 := a6.now k7
  have c7 := c6.now k7
  have T7 := T6.now k7
  have ac7 := ac6.now k7
  have g7 := below_step g6 k7
  replace Hna := hid Hna
  clear a6 c6 T6 ac6 g6 k7
  obtain rfl : na = 0 := by rw [Hna.out, h0.out]; rfl
  obtain rfl : AC = [] := canon_zero CAC.out (by rw [val_vn CAC.out.1, VAC.out, h0.out]; simp)
  go_wp2
  go_ret
  exact ⟨rfl, g7⟩

set_option maxRecDepth 100000 in
set_option maxHeartbeats 6400000 in
theorem order_eq {w : World} {va vb vc : Value} {xs ys zs : List Int} (ha : Sl w.heap.size w va xs) (hb : Sl w.heap.size w vb ys) (hc : Sl w.heap.size w vc zs) (hT : Tab w) (la : xs.length ≤ 17592186043904) (lb : ys.length ≤ 17592186043904) (lc : zs.length ≤ 17592186043904) (hc0 : Hid (vn zs ≠ 0)) (ha0 : Hid (vn xs ≠ 0)) (hcase : Hid (bitLen (vn xs * vn zs) = bitLen (vn xs) + bitLen (vn zs))) :
    Calls Tryd.prog 4 #[va, vb, vc] w fun e w' => e = .returned (.bool true) ∧ Below w.heap.size w w' := by
  have WA := hid ha.1
  have WB := hid hb.1
  have WC := hid hc.1
  go_enter Tryd.func4, Tryd.ntmps4
  go_wp2_with fail
  refine (wake_any _).mono ?_
  rintro e w1 ⟨rfl, k1⟩
  have a1 := ha.now k1
  have b1 := hb.now k1
  have c1 := hc.now k1
  have T1 := hT.now k1
  have g1 := k1
  clear ha hb hc hT k1
  go_wp2_with fail
  refine (mul_now a1 c1 (by omega)).mono ?_
  rintro e w2 ⟨AC, aca, acc, rfl, ac0, CAC, HAC, lac, k2⟩
  have a2 := a1.now k2
  have b2 := b1.now k2
  have c2 := c1.now k2
  have T2 := T1.now k2
  have g2 := below_step g1 k2
  replace CAC := hid CAC
  replace HAC := hid HAC
  clear a1 b1 c1 T1 g1 k2
  have VAC := hid (vn_prod WA.out WC.out CAC.out.1 HAC.out)
  go_wp2_with fail
  refine (mul_now b2 c2 (by omega)).mono ?_
  rintro e w3 ⟨BC, bca, bcc, rfl, bc0, CBC, HBC, lbc, k3⟩
  have a3 := a2.now k3
  have b3 := b2.now k3
  have c3 := c2.now k3
  have T3 := T2.now k3
  have ac3 := ac0.now k3
  have g3 := below_step g2 k3
  replace CBC := hid CBC
  replace HBC := hid HBC
  clear a2 b2 c2 T2 ac0 g2 k3
  have VBC := hid (vn_prod WB.out WC.out CBC.out.1 HBC.out)
  go_wp2_with fail
  refine (bits_now c3 (by omega)).mono ?_
  rintro e w4 ⟨nc, rfl, Hnc, lnc, k4⟩
  have a4 := a3.now k4
  have b4 := b3.now k4
  have c4 := c3.now k4
  have T4 := T3.now k4
  have ac4 := ac3.now k4
  have bc4 := bc0.now k4
  have g4 := below_step g3 k4
  replace Hnc := hid Hnc
  clear a3 b3 c3 T3 ac3 bc0 g3 k4
  have hnc : ((nc : Int) == 0) = false := by rw [beq_eq_false_iff_ne]; have := bitLen_some hc0.out; have := Hnc.out; omega
  go_wp2_with fail
  refine (cmp_now ac4 bc4).mono ?_
  rintro e w5 ⟨rfl, k5⟩
  have a5 := a4.now k5
  have b5 := b4.now k5
  have c5 := c4.now k5
  have T5 := T4.now k5
  have ac5 := ac4.now k5
  have g5 := below_step g4 k5
  clear bc4 a4 b4 c4 T4 ac4 g4 k5
  rw [HAC.out, HBC.out, cmpI_times (show 0 < val zs by rw [val_vn WC.out]; have := hc0.out; omega)]
  have hcmp : (cmpI (val xs) (val ys) != cmpI (val xs) (val ys)) = false := by simp
  go_wp2_with fail
  refine (cmp_now a5 b5).mono ?_
  rintro e w6 ⟨rfl, k6⟩
  have a6 := a5.now k6
  have c6 := c5.now k6
  have T6 := T5.now k6
  have ac6 := ac5.now k6
  have g6 := below_step g5 k6
  clear b5 a5 c5 T5 ac5 g5 k6
  go_wp2_with fail
  refine (bits_now a6 (by omega)).mono ?_
  rintro e w7 ⟨na, rfl, Hna, lna, k7⟩
  have a7 := a6.now k7
  have c7 := c6.now k7
  have T7 := T6.now k7
  have ac7 := ac6.now k7
  have g7 := below_step g6 k7
  replace Hna := hid Hna
  clear a6 c6 T6 ac6 g6 k7
  have hna : ((na : Int) == 0) = false := by rw [beq_eq_false_iff_ne]; have := bitLen_some ha0.out; have := Hna.out; omega
  go_wp2_with fail
  refine (bits_now ac7 (by omega)).mono ?_
  rintro e w8 ⟨nn, rfl, Hnn, lnn, k8⟩
  have a8 := a7.now k8
  have c8 := c7.now k8
  have T8 := T7.now k8
  have ac8 := ac7.now k8
  have g8 := below_step g7 k8
  replace Hnn := hid Hnn
  clear a7 c7 T7 ac7 g7 k8
  go_wp2_with fail
  refine (bits_now a8 (by omega)).mono ?_
  rintro e w9 ⟨na2, rfl, Hna2, lna2, k9⟩
  have a9 := a8.now k9
  have c9 := c8.now k9
  have T9 := T8.now k9
  have ac9 := ac8.now k9
  have g9 := below_step g8 k9
  replace Hna2 := hid Hna2
  clear a8 c8 T8 ac8 g8 k9
  obtain rfl : na = na2 := by rw [Hna2.out, Hna.out]
  go_wp2_with fail
  refine (bits_now c9 (by omega)).mono ?_
  rintro e w10 ⟨nc2, rfl, Hnc2, lnc2, k10⟩
  have a10 := a9.now k10
  have c10 := c9.now k10
  have T10 := T9.now k10
  have ac10 := ac9.now k10
  have g10 := below_step g9 k10
  replace Hnc2 := hid Hnc2
  clear a9 c9 T9 ac9 g9 k10
  obtain rfl : nc = nc2 := by rw [Hnc2.out, Hnc.out]
  have hsum : nn = na + nc := by rw [Hnn.out, Hna.out, Hnc.out, VAC.out]; exact hcase.out
  subst hsum
  have hq1 : ((na : Int) + (nc : Int) == (na : Int) + (nc : Int)) = true := by simp
  go_wp2_with fail
  refine (twos_to ac10 T10).mono ?_
  rintro e w11 ⟨tt, rfl, Htt, k11⟩
  have a11 := a10.now k11
  have c11 := c10.now k11
  have T11 := T10.now k11
  have g11 := below_step g10 k11
  replace Htt := hid Htt
  clear ac10 a10 c10 T10 g10 k11
  go_wp2_with fail
  refine (twos_to a11 T11).mono ?_
  rintro e w12 ⟨ta, rfl, Hta, k12⟩
  have c12 := c11.now k12
  have T12 := T11.now k12
  have g12 := below_step g11 k12
  replace Hta := hid Hta
  clear a11 c11 T11 g11 k12
  go_wp2_with fail
  refine (twos_to c12 T12).mono ?_
  rintro e w13 ⟨tc, rfl, Htc, k13⟩
  have g13 := below_step g12 k13
  replace Htc := hid Htc
  clear c12 T12 g12 k13
  have htw : tt = ta + tc ∧ 0 ≤ ta ∧ ta ≤ na ∧ 0 ≤ tc ∧ tc ≤ nc := by
    have := isTwos_prod ha0.out hc0.out Hta.out Htc.out (by rw [← VAC.out]; exact Htt.out)
    rw [← Hna.out, ← Hnc.out] at this
    exact this
  obtain ⟨rfl, ht1, ht2, ht3, ht4⟩ := htw
  have hq3 : (ta + tc == ta + tc) = true := by simp
  go_wp2
  go_ret
  exact ⟨rfl, g13⟩

set_option maxRecDepth 100000 in
set_option maxHeartbeats 6400000 in
theorem order_less {w : World} {va vb vc : Value} {xs ys zs : List Int} (ha : Sl w.heap.size w va xs) (hb : Sl w.heap.size w vb ys) (hc : Sl w.heap.size w vc zs) (hT : Tab w) (la : xs.length ≤ 17592186043904) (lb : ys.length ≤ 17592186043904) (lc : zs.length ≤ 17592186043904) (hc0 : Hid (vn zs ≠ 0)) (ha0 : Hid (vn xs ≠ 0)) (hcase : Hid (bitLen (vn xs * vn zs) = bitLen (vn xs) + bitLen (vn zs) - 1 ∧ 0 < bitLen (vn xs))) :
    Calls Tryd.prog 4 #[va, vb, vc] w fun e w' => e = .returned (.bool true) ∧ Below w.heap.size w w' := by
  have WA := hid ha.1
  have WB := hid hb.1
  have WC := hid hc.1
  go_enter Tryd.func4, Tryd.ntmps4
  go_wp2_with fail
  refine (wake_any _).mono ?_
  rintro e w1 ⟨rfl, k1⟩
  have a1 := ha.now k1
  have b1 := hb.now k1
  have c1 := hc.now k1
  have T1 := hT.now k1
  have g1 := k1
  clear ha hb hc hT k1
  go_wp2_with fail
  refine (mul_now a1 c1 (by omega)).mono ?_
  rintro e w2 ⟨AC, aca, acc, rfl, ac0, CAC, HAC, lac, k2⟩
  have a2 := a1.now k2
  have b2 := b1.now k2
  have c2 := c1.now k2
  have T2 := T1.now k2
  have g2 := below_step g1 k2
  replace CAC := hid CAC
  replace HAC := hid HAC
  clear a1 b1 c1 T1 g1 k2
  have VAC := hid (vn_prod WA.out WC.out CAC.out.1 HAC.out)
  go_wp2_with fail
  refine (mul_now b2 c2 (by omega)).mono ?_
  rintro e w3 ⟨BC, bca, bcc, rfl, bc0, CBC, HBC, lbc, k3⟩
  have a3 := a2.now k3
  have b3 := b2.now k3
  have c3 := c2.now k3
  have T3 := T2.now k3
  have ac3 := ac0.now k3
  have g3 := below_step g2 k3
  replace CBC := hid CBC
  replace HBC := hid HBC
  clear a2 b2 c2 T2 ac0 g2 k3
  have VBC := hid (vn_prod WB.out WC.out CBC.out.1 HBC.out)
  go_wp2_with fail
  refine (bits_now c3 (by omega)).mono ?_
  rintro e w4 ⟨nc, rfl, Hnc, lnc, k4⟩
  have a4 := a3.now k4
  have b4 := b3.now k4
  have c4 := c3.now k4
  have T4 := T3.now k4
  have ac4 := ac3.now k4
  have bc4 := bc0.now k4
  have g4 := below_step g3 k4
  replace Hnc := hid Hnc
  clear a3 b3 c3 T3 ac3 bc0 g3 k4
  have hnc : ((nc : Int) == 0) = false := by rw [beq_eq_false_iff_ne]; have := bitLen_some hc0.out; have := Hnc.out; omega
  go_wp2_with fail
  refine (cmp_now ac4 bc4).mono ?_
  rintro e w5 ⟨rfl, k5⟩
  have a5 := a4.now k5
  have b5 := b4.now k5
  have c5 := c4.now k5
  have T5 := T4.now k5
  have ac5 := ac4.now k5
  have g5 := below_step g4 k5
  clear bc4 a4 b4 c4 T4 ac4 g4 k5
  rw [HAC.out, HBC.out, cmpI_times (show 0 < val zs by rw [val_vn WC.out]; have := hc0.out; omega)]
  have hcmp : (cmpI (val xs) (val ys) != cmpI (val xs) (val ys)) = false := by simp
  go_wp2_with fail
  refine (cmp_now a5 b5).mono ?_
  rintro e w6 ⟨rfl, k6⟩
  have a6 := a5.now k6
  have c6 := c5.now k6
  have T6 := T5.now k6
  have ac6 := ac5.now k6
  have g6 := below_step g5 k6
  clear b5 a5 c5 T5 ac5 g5 k6
  go_wp2_with fail
  refine (bits_now a6 (by omega)).mono ?_
  rintro e w7 ⟨na, rfl, Hna, lna, k7⟩
  have a7 := a6.now k7
  have c7 := c6.now k7
  have T7 := T6.now k7
  have ac7 := ac6.now k7
  have g7 := below_step g6 k7
  replace Hna := hid Hna
  clear a6 c6 T6 ac6 g6 k7
  have hna : ((na : Int) == 0) = false := by rw [beq_eq_false_iff_ne]; have := bitLen_some ha0.out; have := Hna.out; omega
  go_wp2_with fail
  refine (bits_now ac7 (by omega)).mono ?_
  rintro e w8 ⟨nn, rfl, Hnn, lnn, k8⟩
  have a8 := a7.now k8
  have c8 := c7.now k8
  have T8 := T7.now k8
  have ac8 := ac7.now k8
  have g8 := below_step g7 k8
  replace Hnn := hid Hnn
  clear a7 c7 T7 ac7 g7 k8
  go_wp2_with fail
  refine (bits_now a8 (by omega)).mono ?_
  rintro e w9 ⟨na2, rfl, Hna2, lna2, k9⟩
  have a9 := a8.now k9
  have c9 := c8.now k9
  have T9 := T8.now k9
  have ac9 := ac8.now k9
  have g9 := below_step g8 k9
  replace Hna2 := hid Hna2
  clear a8 c8 T8 ac8 g8 k9
  obtain rfl : na = na2 := by rw [Hna2.out, Hna.out]
  go_wp2_with fail
  refine (bits_now c9 (by omega)).mono ?_
  rintro e w10 ⟨nc2, rfl, Hnc2, lnc2, k10⟩
  have a10 := a9.now k10
  have c10 := c9.now k10
  have T10 := T9.now k10
  have ac10 := ac9.now k10
  have g10 := below_step g9 k10
  replace Hnc2 := hid Hnc2
  clear a9 c9 T9 ac9 g9 k10
  obtain rfl : nc = nc2 := by rw [Hnc2.out, Hnc.out]
  have hsum : nn = na + nc - 1 ∧ 0 < na := by rw [Hnn.out, Hna.out, Hnc.out, VAC.out]; exact hcase.out
  have hq1 : ((nn : Int) == (na : Int) + (nc : Int)) = false := by rw [beq_eq_false_iff_ne]; omega
  have hq2 : ((nn : Int) == (na : Int) + (nc : Int) - 1) = true := by rw [beq_iff_eq]; omega
  go_wp2_with fail
  refine (twos_to ac10 T10).mono ?_
  rintro e w11 ⟨tt, rfl, Htt, k11⟩
  have a11 := a10.now k11
  have c11 := c10.now k11
  have T11 := T10.now k11
  have g11 := below_step g10 k11
  replace Htt := hid Htt
  clear ac10 a10 c10 T10 g10 k11
  go_wp2_with fail
  refine (twos_to a11 T11).mono ?_
  rintro e w12 ⟨ta, rfl, Hta, k12⟩
  have c12 := c11.now k12
  have T12 := T11.now k12
  have g12 := below_step g11 k12
  replace Hta := hid Hta
  clear a11 c11 T11 g11 k12
  go_wp2_with fail
  refine (twos_to c12 T12).mono ?_
  rintro e w13 ⟨tc, rfl, Htc, k13⟩
  have g13 := below_step g12 k13
  replace Htc := hid Htc
  clear c12 T12 g12 k13
  have htw : tt = ta + tc ∧ 0 ≤ ta ∧ ta ≤ na ∧ 0 ≤ tc ∧ tc ≤ nc := by
    have := isTwos_prod ha0.out hc0.out Hta.out Htc.out (by rw [← VAC.out]; exact Htt.out)
    rw [← Hna.out, ← Hnc.out] at this
    exact this
  obtain ⟨rfl, ht1, ht2, ht3, ht4⟩ := htw
  have hq3 : (ta + tc == ta + tc) = true := by simp
  go_wp2
  go_ret
  exact ⟨rfl, g13⟩

theorem mulnatOrder_any {w : World} {va vb vc : Value} {xs ys zs : List Int} (ha : Sl w.heap.size w va xs) (hb : Sl w.heap.size w vb ys) (hc : Sl w.heap.size w vc zs) (hT : Tab w) (la : xs.length ≤ 17592186043904) (lb : ys.length ≤ 17592186043904) (lc : zs.length ≤ 17592186043904) :
    Calls Tryd.prog 4 #[va, vb, vc] w fun e w' => e = .returned (.bool true) ∧ Below w.heap.size w w' := by
  by_cases h0 : vn zs = 0
  · exact order_c0 ha hb hc hT la lb lc h0
  · by_cases h1 : vn xs = 0
    · exact order_a0 ha hb hc hT la lb lc h0 h1
    · rcases bitLen_prod h1 h0 with q | q
      · exact order_eq ha hb hc hT la lb lc h0 h1 q
      · exact order_less ha hb hc hT la lb lc h0 h1 ⟨q, bitLen_some h1⟩
end Go.Proofs.YtagfekcocdjhlaaDoor
