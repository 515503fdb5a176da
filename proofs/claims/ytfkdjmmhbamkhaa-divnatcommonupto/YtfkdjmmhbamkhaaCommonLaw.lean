/-
  CommonLaw: the walk of DivnatCommon.
-/
import Derived.Test.YtfkdjmmhbamkhaaBuiltLaw
namespace Go.Proofs.Ytfkdjmmhbamkhaa
open Go.RowKit
set_option linter.unusedVariables false

theorem ig_le {a b : Int} (ha : 0 ≤ a) (hb : 0 ≤ b) : (ig a b : Int) ≤ a + b := by
  obtain ⟨X, rfl⟩ := Int.eq_ofNat_of_zero_le ha
  obtain ⟨Y, rfl⟩ := Int.eq_ofNat_of_zero_le hb
  unfold ig
  simp only [Int.toNat_natCast]
  by_cases h : X = 0
  · subst h; simp
  · have := Nat.gcd_le_left Y (show 0 < X by omega)
    omega
theorem ig_len {xs ys gs : List Int} (hx : WF xs) (hy : WF ys) (hg : Canon gs) (h : val gs = (ig (val xs) (val ys) : Int)) : gs.length ≤ xs.length + ys.length + 1 := by
  refine lenm_of_lt hg ?_
  have h0 := ig_le (val_nonneg hx) (val_nonneg hy)
  have h1 := val_lt_pw hx
  have h2 := val_lt_pw hy
  have h3 := pwm_mono (show xs.length ≤ xs.length + ys.length by omega)
  have h4 := pwm_mono (show ys.length ≤ xs.length + ys.length by omega)
  have h5 := pw_pos (xs.length + ys.length)
  have h6 : pw (xs.length + ys.length + 1) = wB * pw (xs.length + ys.length) := rfl
  have h7 : wB = 18446744073709551616 := rfl
  rw [h6, h7]
  omega
theorem ig_scale {a b c : Int} (ha : 0 ≤ a) (hb : 0 ≤ b) (hc : 0 ≤ c) : (ig (a * c) (b * c) : Int) = (ig a b : Int) * c := by
  obtain ⟨X, rfl⟩ := Int.eq_ofNat_of_zero_le ha
  obtain ⟨Y, rfl⟩ := Int.eq_ofNat_of_zero_le hb
  obtain ⟨Z, rfl⟩ := Int.eq_ofNat_of_zero_le hc
  unfold ig
  rw [← Int.natCast_mul, ← Int.natCast_mul]
  simp only [Int.toNat_natCast]
  rw [Nat.gcd_mul_right, Int.natCast_mul]
theorem ig_add {a b c : Int} (ha : 0 ≤ a) (hb : 0 ≤ b) (hc : 0 ≤ c) : ig (a + b * c) b = ig a b := by
  obtain ⟨X, rfl⟩ := Int.eq_ofNat_of_zero_le ha
  obtain ⟨Y, rfl⟩ := Int.eq_ofNat_of_zero_le hb
  obtain ⟨Z, rfl⟩ := Int.eq_ofNat_of_zero_le hc
  unfold ig
  rw [← Int.natCast_mul, ← Int.natCast_add]
  simp only [Int.toNat_natCast]
  rw [Nat.gcd_comm, Nat.gcd_rec, Nat.add_mul_mod_self_left, ← Nat.gcd_rec, Nat.gcd_comm]
theorem ig_dvd {a b : Int} (ha : 0 ≤ a) (hb : 0 ≤ b) : (∃ k, a = (ig a b : Int) * k) ∧ ∃ k, b = (ig a b : Int) * k := by
  obtain ⟨X, rfl⟩ := Int.eq_ofNat_of_zero_le ha
  obtain ⟨Y, rfl⟩ := Int.eq_ofNat_of_zero_le hb
  unfold ig
  simp only [Int.toNat_natCast]
  obtain ⟨p, hp⟩ := Nat.gcd_dvd_left X Y
  obtain ⟨q, hq⟩ := Nat.gcd_dvd_right X Y
  exact ⟨⟨(p : Int), by rw [← Int.natCast_mul, ← hp]⟩, ⟨(q : Int), by rw [← Int.natCast_mul, ← hq]⟩⟩
theorem ig_none {a b : Int} (ha : 0 ≤ a) (hb : 0 ≤ b) (h : (ig a b : Int) = 0) : a = 0 ∧ b = 0 := by
  obtain ⟨⟨p, hp⟩, ⟨q, hq⟩⟩ := ig_dvd ha hb
  rw [h, Int.zero_mul] at hp hq
  exact ⟨hp, hq⟩
theorem ig_left {a b g x y : Int} (hx : 0 ≤ x) (hy : 0 ≤ y) (hg : 0 < g) (hG : (ig a b : Int) = g) (ha : a = g * x) (hb : b = g * y) : (ig x y : Int) = 1 := by
  have h := ig_scale hx hy (Int.le_of_lt hg)
  rw [Int.mul_comm x, Int.mul_comm y, ← ha, ← hb, hG] at h
  have h2 : (ig x y : Int) * g = 1 * g := by omega
  exact Int.eq_of_mul_eq_mul_right (by omega) h2
theorem exact_whole {X G : Int} {qs rs : List Int} (hr : Canon rs) (hG : 0 < G) (hk : ∃ k, X = G * k) (h : X = G * val qs + val rs) (hl : val rs < G) : rs = [] ∧ X = G * val qs := by
  obtain ⟨k, hk⟩ := hk
  obtain ⟨_, b⟩ := div_one (q' := k) (r' := 0) h (by rw [hk]; omega) (val_nonneg hr.1) hl (Int.le_refl 0) hG
  have : rs = [] := canon_zero hr b.symm
  exact ⟨this, by rw [h, this]; simp [val]⟩

set_option maxHeartbeats 3200000 in
set_option maxRecDepth 100000 in
theorem divnatCommon_any {w : World} {va vb vc : Value} {xs ys zs : List Int} (ha : Sl w.heap.size w va xs) (hb : Sl w.heap.size w vb ys) (hc : Sl w.heap.size w vc zs) (la : xs.length ≤ 1048576) (lb : ys.length ≤ 1048576) (lc : zs.length ≤ 1048576) :
    Calls Try.prog 5 #[va, vb, vc] w fun e w' => e = .returned (.bool true) ∧ Below w.heap.size w w' := by
  have SA := hid ha
  have SB := hid hb
  have SC := hid hc
  have WA := hid ha.1
  have WB := hid hb.1
  have WC := hid hc.1
  have KK := hid (Below.refl w.heap.size w)
  have a0 := hid (val_nonneg ha.1)
  have b0 := hid (val_nonneg hb.1)
  have c0 := hid (val_nonneg hc.1)
  have z0 : ((0 : Int) != 0) = false := rfl
  have z00 : ((0 : Int) == 0) = true := rfl
  clear ha hb hc
  go_enter Try.func5, Try.ntmps5
  have HC := hid (wakes3_any w)
  go_wp2_with fail
  refine HC.out.mono ?_
  rintro e w2 ⟨rfl, b⟩
  replace SA := hid (SA.out.now b)
  replace SB := hid (SB.out.now b)
  replace SC := hid (SC.out.now b)
  replace KK := hid (below_step KK.out b)
  clear HC b
  have HC := hid (gcd_any SA.out SB.out (by omega) (by omega))
  go_wp2_with fail
  refine HC.out.mono ?_
  rintro e w3 ⟨gs, vg, rfl, og, cg, eg, b⟩
  replace SA := hid (SA.out.now b)
  replace SB := hid (SB.out.now b)
  replace SC := hid (SC.out.now b)
  replace KK := hid (below_step KK.out b)
  have SG := hid og.sl
  have EG := hid eg
  obtain ⟨ga, gc, rfl⟩ := og.form
  have lg := ig_len WA.out WB.out cg eg
  clear og eg
  clear HC b
  have HC := hid (gcd_any SB.out SA.out (by omega) (by omega))
  go_wp2_with fail
  refine HC.out.mono ?_
  rintro e w4 ⟨hs, vh, rfl, oh, ch, eh, b⟩
  replace SA := hid (SA.out.now b)
  replace SB := hid (SB.out.now b)
  replace SC := hid (SC.out.now b)
  replace SG := hid (SG.out.now b)
  replace KK := hid (below_step KK.out b)
  have SH := hid oh.sl
  have hh : gs = hs := canon_inj cg ch (by rw [EG.out, eh, ig_comm])
  have HH := hid hh
  clear oh eh hh
  clear HC b
  have HC := hid (rmul_any SA.out SC.out (by omega) (by omega))
  go_wp2_with fail
  refine HC.out.mono ?_
  rintro e w5 ⟨p1, v1, rfl, o1, c1, e1, b⟩
  replace SA := hid (SA.out.now b)
  replace SB := hid (SB.out.now b)
  replace SC := hid (SC.out.now b)
  replace SG := hid (SG.out.now b)
  replace SH := hid (SH.out.now b)
  replace KK := hid (below_step KK.out b)
  have S1 := hid o1.sl
  have E1 := hid e1
  have l1 := mul_len3 WA.out WC.out c1 e1
  clear o1 e1
  clear HC b
  have HC := hid (rmul_any SB.out SC.out (by omega) (by omega))
  go_wp2_with fail
  refine HC.out.mono ?_
  rintro e w6 ⟨p2, v2, rfl, o2, c2, e2, b⟩
  replace SA := hid (SA.out.now b)
  replace SB := hid (SB.out.now b)
  replace SC := hid (SC.out.now b)
  replace SG := hid (SG.out.now b)
  replace SH := hid (SH.out.now b)
  replace S1 := hid (S1.out.now b)
  replace KK := hid (below_step KK.out b)
  have S2 := hid o2.sl
  have E2 := hid e2
  have l2 := mul_len3 WB.out WC.out c2 e2
  clear o2 e2
  clear HC b
  have HC := hid (gcd_any S1.out S2.out (by omega) (by omega))
  go_wp2_with fail
  refine HC.out.mono ?_
  rintro e w7 ⟨ms, vm, rfl, om, cm, em, b⟩
  replace SA := hid (SA.out.now b)
  replace SB := hid (SB.out.now b)
  replace SC := hid (SC.out.now b)
  replace SG := hid (SG.out.now b)
  replace SH := hid (SH.out.now b)
  replace S1 := hid (S1.out.now b)
  replace S2 := hid (S2.out.now b)
  replace KK := hid (below_step KK.out b)
  have SM := hid om.sl
  have EM : Hid (val ms = (ig (val xs) (val ys) : Int) * val zs) := by unfold Hid; rw [em, E1.out, E2.out]; exact ig_scale a0.out b0.out c0.out
  clear om em
  clear HC b
  have HC := hid (least3_yes SG.out cg)
  go_wp2_with fail
  refine HC.out.mono ?_
  rintro e wl ⟨rfl, rfl⟩
  clear HC
  have HC := hid (same_yes SG.out SH.out HH.out)
  go_wp2_with fail
  refine HC.out.mono ?_
  rintro e w8 ⟨rfl, b⟩
  replace SA := hid (SA.out.now b)
  replace SB := hid (SB.out.now b)
  replace SC := hid (SC.out.now b)
  replace SG := hid (SG.out.now b)
  replace SH := hid (SH.out.now b)
  replace S1 := hid (S1.out.now b)
  replace S2 := hid (S2.out.now b)
  replace SM := hid (SM.out.now b)
  replace KK := hid (below_step KK.out b)
  clear HC b
  have HC := hid (rmul_any SG.out SC.out (by omega) (by omega))
  go_wp2_with fail
  refine HC.out.mono ?_
  rintro e w9 ⟨p3, v3, rfl, o3, c3, e3, b⟩
  replace SA := hid (SA.out.now b)
  replace SB := hid (SB.out.now b)
  replace SC := hid (SC.out.now b)
  replace SG := hid (SG.out.now b)
  replace SH := hid (SH.out.now b)
  replace S1 := hid (S1.out.now b)
  replace S2 := hid (S2.out.now b)
  replace SM := hid (SM.out.now b)
  replace KK := hid (below_step KK.out b)
  have S3 := hid o3.sl
  have hm3 : ms = p3 := canon_inj cm c3 (by rw [EM.out, e3, EG.out])
  have HM3 := hid hm3
  clear o3 e3 hm3
  clear HC b
  have HC := hid (same_yes SM.out S3.out HM3.out)
  go_wp2_with fail
  refine HC.out.mono ?_
  rintro e w10 ⟨rfl, b⟩
  replace SA := hid (SA.out.now b)
  replace SB := hid (SB.out.now b)
  replace SC := hid (SC.out.now b)
  replace SG := hid (SG.out.now b)
  replace SH := hid (SH.out.now b)
  replace S1 := hid (S1.out.now b)
  replace S2 := hid (S2.out.now b)
  replace SM := hid (SM.out.now b)
  replace S3 := hid (S3.out.now b)
  replace KK := hid (below_step KK.out b)
  clear HC b
  have HC := hid (rmul_any SB.out SC.out (by omega) (by omega))
  go_wp2_with fail
  refine HC.out.mono ?_
  rintro e w11 ⟨p4, v4, rfl, o4, c4, e4, b⟩
  replace SA := hid (SA.out.now b)
  replace SB := hid (SB.out.now b)
  replace SC := hid (SC.out.now b)
  replace SG := hid (SG.out.now b)
  replace SH := hid (SH.out.now b)
  replace S1 := hid (S1.out.now b)
  replace S2 := hid (S2.out.now b)
  replace SM := hid (SM.out.now b)
  replace S3 := hid (S3.out.now b)
  replace KK := hid (below_step KK.out b)
  have S4 := hid o4.sl
  have E4 := hid e4
  have l4 := mul_len3 WB.out WC.out c4 e4
  clear o4 e4
  clear HC b
  have HC := hid (radd_any SA.out S4.out (by omega) (by omega))
  go_wp2_with fail
  refine HC.out.mono ?_
  rintro e w12 ⟨p5, v5, rfl, o5, c5, e5, b⟩
  replace SA := hid (SA.out.now b)
  replace SB := hid (SB.out.now b)
  replace SC := hid (SC.out.now b)
  replace SG := hid (SG.out.now b)
  replace SH := hid (SH.out.now b)
  replace S1 := hid (S1.out.now b)
  replace S2 := hid (S2.out.now b)
  replace SM := hid (SM.out.now b)
  replace S3 := hid (S3.out.now b)
  replace S4 := hid (S4.out.now b)
  replace KK := hid (below_step KK.out b)
  have S5 := hid o5.sl
  have E5 := hid e5
  have l5 := sum_len3 WA.out c4.1 c5 e5
  clear o5 e5
  clear HC b
  have HC := hid (gcd_any S5.out SB.out (by omega) (by omega))
  go_wp2_with fail
  refine HC.out.mono ?_
  rintro e w13 ⟨ss, vs, rfl, os, cs, es, b⟩
  replace SA := hid (SA.out.now b)
  replace SB := hid (SB.out.now b)
  replace SC := hid (SC.out.now b)
  replace SG := hid (SG.out.now b)
  replace SH := hid (SH.out.now b)
  replace S1 := hid (S1.out.now b)
  replace S2 := hid (S2.out.now b)
  replace SM := hid (SM.out.now b)
  replace S3 := hid (S3.out.now b)
  replace S4 := hid (S4.out.now b)
  replace S5 := hid (S5.out.now b)
  replace KK := hid (below_step KK.out b)
  have SS := hid os.sl
  have hs5 : ss = gs := canon_inj cs cg (by rw [es, EG.out, E5.out, E4.out, ig_add a0.out b0.out c0.out])
  have HS5 := hid hs5
  clear os es hs5
  clear HC b
  have HC := hid (same_yes SS.out SG.out HS5.out)
  go_wp2_with fail
  refine HC.out.mono ?_
  rintro e w14 ⟨rfl, b⟩
  replace SA := hid (SA.out.now b)
  replace SB := hid (SB.out.now b)
  replace SC := hid (SC.out.now b)
  replace SG := hid (SG.out.now b)
  replace SH := hid (SH.out.now b)
  replace S1 := hid (S1.out.now b)
  replace S2 := hid (S2.out.now b)
  replace SM := hid (SM.out.now b)
  replace S3 := hid (S3.out.now b)
  replace S4 := hid (S4.out.now b)
  replace S5 := hid (S5.out.now b)
  replace SS := hid (SS.out.now b)
  replace KK := hid (below_step KK.out b)
  clear HC b
  clear SH S1 S2 SM S3 S4 S5 SS HH HM3 HS5 E1 E2 E4 E5 EM c1 c2 c3 c4 c5 cm cs ch l1 l2 l4 l5
  by_cases hg0 : gs.length = 0
  · have hgn : gs = [] := List.eq_nil_of_length_eq_zero hg0
    have hzero := ig_none a0.out b0.out (by rw [← EG.out, hgn]; rfl)
    have HZ := hid hzero
    have z1 : ((gs.length : Int) == 0) = true := by rw [beq_iff_eq]; omega
    clear hgn hzero
    have HC := hid (rleast_any SA.out (by omega))
    go_wp2_with fail
    refine HC.out.mono ?_
    rintro e w15 ⟨n1, vn1, rfl, on1, cn1, en1, b⟩
    replace SA := hid (SA.out.now b)
    replace SB := hid (SB.out.now b)
    replace SC := hid (SC.out.now b)
    replace SG := hid (SG.out.now b)
    replace KK := hid (below_step KK.out b)
    have hn1 : n1 = [] := canon_zero cn1 (by rw [en1]; exact HZ.out.1)
    subst hn1
    obtain ⟨na, nc, rfl⟩ := on1.form
    clear on1 cn1 en1
    clear HC b
    have HC := hid (rleast_any SB.out (by omega))
    go_wp2_with fail
    refine HC.out.mono ?_
    rintro e w16 ⟨n2, vn2, rfl, on2, cn2, en2, b⟩
    replace SA := hid (SA.out.now b)
    replace SB := hid (SB.out.now b)
    replace SC := hid (SC.out.now b)
    replace SG := hid (SG.out.now b)
    replace KK := hid (below_step KK.out b)
    have hn2 : n2 = [] := canon_zero cn2 (by rw [en2]; exact HZ.out.2)
    subst hn2
    obtain ⟨na2, nc2, rfl⟩ := on2.form
    clear on2 cn2 en2
    clear HC b
    go_wp2
    go_ret
    exact ⟨rfl, KK.out⟩
  · have z1 : ((gs.length : Int) == 0) = false := by rw [beq_eq_false_iff_ne]; omega
    have hgp : 0 < val gs := by
      have := wid_pos_val cg.1 (by rw [cg.2]; omega)
      exact this
    have hgw : wid gs ≠ 0 := by rw [cg.2]; exact hg0
    have HDV : Hid ((∃ k, val xs = val gs * k) ∧ ∃ k, val ys = val gs * k) := by unfold Hid; rw [EG.out]; exact ig_dvd a0.out b0.out
    have HC := hid (exact_any SA.out SG.out hgw (by omega) (by omega))
    go_wp2_with fail
    refine HC.out.mono ?_
    rintro e w17 ⟨x6, r6, cx6, cr6, ex6, hl6, hx6, b, hend⟩
    replace SA := hid (SA.out.now b)
    replace SB := hid (SB.out.now b)
    replace SC := hid (SC.out.now b)
    replace SG := hid (SG.out.now b)
    replace KK := hid (below_step KK.out b)
    obtain ⟨hr6, hv6⟩ := exact_whole cr6 hgp HDV.out.1 ex6 hl6
    have HV6 := hid hv6
    rcases hend with ⟨_, vq6, rfl, oq6⟩ | ⟨hne, _⟩
    rotate_left
    · exact absurd hr6 hne
    have SX6 := hid oq6.sl
    obtain ⟨qa6, qc6, rfl⟩ := oq6.form
    clear oq6 ex6 hl6 hr6 hv6 cr6
    clear HC b
    have HC := hid (exact_any SB.out SG.out hgw (by omega) (by omega))
    go_wp2_with fail
    refine HC.out.mono ?_
    rintro e w18 ⟨x7, r7, cx7, cr7, ex7, hl7, hx7, b, hend⟩
    replace SA := hid (SA.out.now b)
    replace SB := hid (SB.out.now b)
    replace SC := hid (SC.out.now b)
    replace SG := hid (SG.out.now b)
    replace SX6 := hid (SX6.out.now b)
    replace KK := hid (below_step KK.out b)
    obtain ⟨hr7, hv7⟩ := exact_whole cr7 hgp HDV.out.2 ex7 hl7
    have HV7 := hid hv7
    rcases hend with ⟨_, vq7, rfl, oq7⟩ | ⟨hne, _⟩
    rotate_left
    · exact absurd hr7 hne
    have SX7 := hid oq7.sl
    obtain ⟨qa7, qc7, rfl⟩ := oq7.form
    clear oq7 ex7 hl7 hr7 hv7 cr7
    clear HC b
    have HC := hid (gcd_any SX6.out SX7.out (by omega) (by omega))
    go_wp2_with fail
    refine HC.out.mono ?_
    rintro e w19 ⟨os, vo, rfl, oo, co, eo, b⟩
    replace SA := hid (SA.out.now b)
    replace SB := hid (SB.out.now b)
    replace SC := hid (SC.out.now b)
    replace SG := hid (SG.out.now b)
    replace SX6 := hid (SX6.out.now b)
    replace SX7 := hid (SX7.out.now b)
    replace KK := hid (below_step KK.out b)
    have SO := hid oo.sl
    have EO : Hid (val os = 1) := by unfold Hid; rw [eo]; exact ig_left (val_nonneg cx6.1) (val_nonneg cx7.1) hgp EG.out.symm HV6.out HV7.out
    clear oo eo
    clear HC b
    have HC := hid (rmul_any SX6.out SG.out (by omega) (by omega))
    go_wp2_with fail
    refine HC.out.mono ?_
    rintro e w20 ⟨p8, v8, rfl, o8, c8, e8, b⟩
    replace SA := hid (SA.out.now b)
    replace SB := hid (SB.out.now b)
    replace SC := hid (SC.out.now b)
    replace SG := hid (SG.out.now b)
    replace SX6 := hid (SX6.out.now b)
    replace SX7 := hid (SX7.out.now b)
    replace SO := hid (SO.out.now b)
    replace KK := hid (below_step KK.out b)
    have S8 := hid o8.sl
    have E8 : Hid (val p8 = val xs) := by unfold Hid; rw [e8, HV6.out, Int.mul_comm]
    clear o8 e8
    clear HC b
    have HC := hid (rmul_any SX7.out SG.out (by omega) (by omega))
    go_wp2_with fail
    refine HC.out.mono ?_
    rintro e w21 ⟨p9, v9, rfl, o9, c9, e9, b⟩
    replace SA := hid (SA.out.now b)
    replace SB := hid (SB.out.now b)
    replace SC := hid (SC.out.now b)
    replace SG := hid (SG.out.now b)
    replace SX6 := hid (SX6.out.now b)
    replace SX7 := hid (SX7.out.now b)
    replace SO := hid (SO.out.now b)
    replace S8 := hid (S8.out.now b)
    replace KK := hid (below_step KK.out b)
    have S9 := hid o9.sl
    have E9 : Hid (val p9 = val ys) := by unfold Hid; rw [e9, HV7.out, Int.mul_comm]
    clear o9 e9
    clear HC b
    obtain ⟨wL, hwL⟩ : ∃ wL, w21.alloc (.cells #[.int .u64 1] 26) = wL := ⟨_, rfl⟩
    have bL : Below w21.heap.size w21 wL := by rw [← hwL]; exact (Below.refl _ _).alloc (Nat.le_refl _) _
    have SL1 : Hid (Sl wL.heap.size wL (.slice (some ⟨w21.heap.size, 0, none⟩) 1 1) [1]) := by rw [← hwL]; exact lit_last w21 [1] _ rfl (wf_word (by omega) WF.nil) (by simp) 1 rfl
    have EL := hid hwL
    replace SA := hid (SA.out.now bL)
    replace SB := hid (SB.out.now bL)
    replace SO := hid (SO.out.now bL)
    replace S8 := hid (S8.out.now bL)
    replace S9 := hid (S9.out.now bL)
    replace KK := hid (below_step KK.out bL)
    clear hwL bL
    have ho1 : os = [1] := canon_inj co ⟨wf_word (by omega) WF.nil, rfl⟩ (by rw [EO.out]; simp [val])
    have HC := hid (same_yes SO.out SL1.out ho1)
    clear ho1 SL1
    go_wp2_with fail
    rw [EL.out]
    refine HC.out.mono ?_
    rintro e wM ⟨rfl, b⟩
    replace SA := hid (SA.out.now b)
    replace SB := hid (SB.out.now b)
    replace SO := hid (SO.out.now b)
    replace S8 := hid (S8.out.now b)
    replace S9 := hid (S9.out.now b)
    replace KK := hid (below_step KK.out b)
    clear HC b
    have HC := hid (rleast_any SA.out (by omega))
    go_wp2_with fail
    refine HC.out.mono ?_
    rintro e w22 ⟨n1, vn1, rfl, on1, cn1, en1, b⟩
    replace SA := hid (SA.out.now b)
    replace SB := hid (SB.out.now b)
    replace SO := hid (SO.out.now b)
    replace S8 := hid (S8.out.now b)
    replace S9 := hid (S9.out.now b)
    replace KK := hid (below_step KK.out b)
    have SN1 := hid on1.sl
    have hn1 : p8 = n1 := canon_inj c8 cn1 (by rw [E8.out, en1])
    have HN1 := hid hn1
    clear on1 cn1 en1 hn1
    clear HC b
    have HC := hid (same_yes S8.out SN1.out HN1.out)
    go_wp2_with fail
    refine HC.out.mono ?_
    rintro e w23 ⟨rfl, b⟩
    replace SA := hid (SA.out.now b)
    replace SB := hid (SB.out.now b)
    replace SO := hid (SO.out.now b)
    replace S8 := hid (S8.out.now b)
    replace S9 := hid (S9.out.now b)
    replace SN1 := hid (SN1.out.now b)
    replace KK := hid (below_step KK.out b)
    clear HC b
    have HC := hid (rleast_any SB.out (by omega))
    go_wp2_with fail
    refine HC.out.mono ?_
    rintro e w24 ⟨n2, vn2, rfl, on2, cn2, en2, b⟩
    replace SA := hid (SA.out.now b)
    replace SB := hid (SB.out.now b)
    replace SO := hid (SO.out.now b)
    replace S8 := hid (S8.out.now b)
    replace S9 := hid (S9.out.now b)
    replace SN1 := hid (SN1.out.now b)
    replace KK := hid (below_step KK.out b)
    have SN2 := hid on2.sl
    have hn2 : p9 = n2 := canon_inj c9 cn2 (by rw [E9.out, en2])
    have HN2 := hid hn2
    clear on2 cn2 en2 hn2
    clear HC b
    have HC := hid (same_yes S9.out SN2.out HN2.out)
    go_wp2_with fail
    refine HC.out.mono ?_
    rintro e w25 ⟨rfl, b⟩
    replace SA := hid (SA.out.now b)
    replace SB := hid (SB.out.now b)
    replace SO := hid (SO.out.now b)
    replace S8 := hid (S8.out.now b)
    replace S9 := hid (S9.out.now b)
    replace SN1 := hid (SN1.out.now b)
    replace SN2 := hid (SN2.out.now b)
    replace KK := hid (below_step KK.out b)
    clear HC b
    go_wp2
    go_ret
    exact ⟨rfl, KK.out⟩
end Go.Proofs.Ytfkdjmmhbamkhaa
