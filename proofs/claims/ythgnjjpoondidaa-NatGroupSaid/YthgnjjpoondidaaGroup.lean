/-
  Group: the walk of NatGroup.
-/
import Derived.Test.YthgnjjpoondidaaNow
namespace Go.Proofs.Ythgnjjpoondidaa
open Go.RowKit

set_option maxHeartbeats 1600000 in
theorem natGroup_any {w : World} {va vb vc : Value} {xs ys zs : List Int} (ha : Sl w.heap.size w va xs) (hb : Sl w.heap.size w vb ys) (hc : Sl w.heap.size w vc zs)
    (la : xs.length ≤ 17592186043904) (lb : ys.length ≤ 17592186043904) (lc : zs.length ≤ 17592186043904) :
    Calls Try.prog 4 #[va, vb, vc] w fun e w' => e = .returned (.bool true) ∧ Below w.heap.size w w' := by
  have wa := ha.1
  have pa := hid (val_nonneg wa)
  go_enter Try.func4, Try.ntmps4
  go_wp2_with fail
  refine (awake_any _).mono ?_
  rintro e w1 ⟨rfl, k1⟩
  have a1 := ha.now k1
  have b1 := hb.now k1
  have c1 := hc.now k1
  have g1 := k1
  clear ha hb hc k1
  go_wp2_with fail
  refine (add_now a1 b1 (by omega) (by omega)).mono ?_
  rintro e w2 ⟨S, vs, rfl, s0, cs, HS, ls, k2⟩
  have a2 := a1.now k2
  have b2 := b1.now k2
  have c2 := c1.now k2
  have g2 := below_step g1 k2
  replace HS := hid HS
  clear a1 b1 c1 g1 k2
  go_wp2_with fail
  refine (least_now a2).mono ?_
  rintro e w3 ⟨vl, rfl, l0, k3⟩
  have a3 := a2.now k3
  have b3 := b2.now k3
  have c3 := c2.now k3
  have s3 := s0.now k3
  have g3 := below_step g2 k3
  clear a2 b2 c2 s0 g2 k3
  go_wp2_with fail
  refine (add_now b3 a3 (by omega) (by omega)).mono ?_
  rintro e w4 ⟨T, vt, rfl, t0, ct, HT, lt, k4⟩
  have a4 := a3.now k4
  have b4 := b3.now k4
  have c4 := c3.now k4
  have s4 := s3.now k4
  have l4 := l0.now k4
  have g4 := below_step g3 k4
  replace HT := hid HT
  clear a3 b3 c3 s3 l0 g3 k4
  go_wp2_with fail
  refine (same_yes s4 t0 (canon_inj cs ct (by rw [HS.out, HT.out]; omega))).mono ?_
  rintro e w5 ⟨rfl, k5⟩
  have a5 := a4.now k5
  have b5 := b4.now k5
  have c5 := c4.now k5
  have s5 := s4.now k5
  have l5 := l4.now k5
  have g5 := below_step g4 k5
  clear t0 a4 b4 c4 s4 l4 g4 k5
  clear ct HT lt
  go_wp2_with fail
  refine (add_now s5 c5 (by omega) (by omega)).mono ?_
  rintro e w6 ⟨T, vt, rfl, t0, ct, HT, lt, k6⟩
  have a6 := a5.now k6
  have b6 := b5.now k6
  have c6 := c5.now k6
  have s6 := s5.now k6
  have l6 := l5.now k6
  have g6 := below_step g5 k6
  replace HT := hid HT
  clear a5 b5 c5 s5 l5 g5 k6
  go_wp2_with fail
  refine (add_now b6 c6 (by omega) (by omega)).mono ?_
  rintro e w7 ⟨U, vu, rfl, u0, cu, HU, lu, k7⟩
  have a7 := a6.now k7
  have b7 := b6.now k7
  have c7 := c6.now k7
  have s7 := s6.now k7
  have l7 := l6.now k7
  have t7 := t0.now k7
  have g7 := below_step g6 k7
  replace HU := hid HU
  clear a6 b6 c6 s6 l6 t0 g6 k7
  go_wp2_with fail
  refine (add_now a7 u0 (by omega) (by omega)).mono ?_
  rintro e w8 ⟨V, vv, rfl, v0, cv, HV, lv, k8⟩
  have a8 := a7.now k8
  have b8 := b7.now k8
  have c8 := c7.now k8
  have s8 := s7.now k8
  have l8 := l7.now k8
  have t8 := t7.now k8
  have g8 := below_step g7 k8
  replace HV := hid HV
  clear u0 a7 b7 c7 s7 l7 t7 g7 k8
  go_wp2_with fail
  refine (same_yes t8 v0 (canon_inj ct cv (by rw [HT.out, HS.out, HV.out, HU.out]; omega))).mono ?_
  rintro e w9 ⟨rfl, k9⟩
  have a9 := a8.now k9
  have b9 := b8.now k9
  have s9 := s8.now k9
  have l9 := l8.now k9
  have g9 := below_step g8 k9
  clear t8 v0 c8 a8 b8 s8 l8 g8 k9
  clear ct HT lt cu HU lu cv HV lv lc
  go_wp2_with fail
  refine (add_now a9 (Sl.nil _) (by omega) (by simp)).mono ?_
  rintro e w10 ⟨T, vt, rfl, t0, ct, HT, lt, k10⟩
  have a10 := a9.now k10
  have b10 := b9.now k10
  have s10 := s9.now k10
  have l10 := l9.now k10
  have g10 := below_step g9 k10
  replace HT := hid HT
  clear a9 b9 s9 l9 g9 k10
  go_wp2_with fail
  refine (same_yes t0 l10 (canon_inj ct (canon_lst wa) (by rw [HT.out, val_lst]; simp [val]))).mono ?_
  rintro e w11 ⟨rfl, k11⟩
  have a11 := a10.now k11
  have b11 := b10.now k11
  have s11 := s10.now k11
  have l11 := l10.now k11
  have g11 := below_step g10 k11
  clear t0 a10 b10 s10 l10 g10 k11
  clear ct HT lt
  go_wp2_with fail
  refine (sub_now s11 b11 (by rw [HS.out]; have := pa.out; omega)).mono ?_
  rintro e w12 ⟨D, da, dcap, rfl, d0, cd, HD, ld, k12⟩
  have a12 := a11.now k12
  have b12 := b11.now k12
  have s12 := s11.now k12
  have l12 := l11.now k12
  have g12 := below_step g11 k12
  replace HD := hid HD
  clear a11 b11 s11 l11 g11 k12
  go_wp2_with fail
  refine (same_yes d0 l12 (canon_inj cd (canon_lst wa) (by rw [HD.out, val_lst, HS.out]; omega))).mono ?_
  rintro e w13 ⟨rfl, k13⟩
  have a13 := a12.now k13
  have g13 := below_step g12 k13
  clear d0 s12 b12 l12 a12 g12 k13
  clear cd HD ld cs HS ls lb
  go_wp2_with fail
  refine (sub_now a13 a13 (Int.le_refl _)).mono ?_
  rintro e w14 ⟨D, da, dcap, rfl, d0, cd, HD, ld, k14⟩
  have a14 := a13.now k14
  have g14 := below_step g13 k14
  clear a13 g13 k14
  obtain rfl : D = [] := canon_zero cd (by rw [HD]; omega)
  clear d0 cd HD ld
  go_wp2_with fail
  have q0 := lit_last w14 [1] #[.int .u64 1] rfl (wf_word (by omega) WF.nil) (by simp) 1 rfl
  have kk := ((Below.refl w14.heap.size w14).alloc (Nat.le_refl _) (.cells #[.int .u64 1] 25))
  have a15 := a14.now kk
  have g15 := below_step g14 kk
  refine (add_now a15 q0 (by omega) (by simp)).mono ?_
  rintro e w16 ⟨T, vt, rfl, t0, ct, HT, lt, k16⟩
  have a16 := a15.now k16
  have g16 := below_step g15 k16
  replace HT := hid HT
  clear a14 a15 g14 g15 k16 q0 kk lt
  go_wp2_with fail
  refine (sub_not a16 t0 (by rw [HT.out]; simp [val]; omega)).mono ?_
  rintro e w17 ⟨rfl, k17⟩
  have g17 := below_step g16 k17
  clear g16 k17 t0 ct HT a16
  go_wp2
  go_ret
  exact ⟨rfl, g17⟩
end Go.Proofs.Ythgnjjpoondidaa
