/-
  BuiltLaw: the walk of DivnatBuilt.
-/
import Derived.Test.YtfkdjmmhbamkhaaGcdAll
import Derived.Test.YtfkdjmmhbamkhaaWakes3
import Derived.Test.YtfkdjmmhbamkhaaRMul
import Derived.Test.YtfkdjmmhbamkhaaRAdd
import Derived.Test.YtfkdjmmhbamkhaaRLeast
namespace Go.Proofs.Ytfkdjmmhbamkhaa
open Go.RowKit
set_option linter.unusedVariables false

theorem pwm_mono {m n : Nat} (h : m ≤ n) : pw m ≤ pw n := by
  obtain ⟨k, rfl⟩ := Nat.exists_eq_add_of_le h
  rw [pw_add]
  have h1 := pw_pos m
  have h2 := pw_pos k
  have := Int.mul_le_mul_of_nonneg_left (show 1 ≤ pw k by omega) (Int.le_of_lt h1)
  rw [Int.mul_one] at this
  exact this
theorem lenm_of_lt {zs : List Int} {k : Nat} (h : Canon zs) (hv : val zs < pw k) : zs.length ≤ k := by
  refine Nat.le_of_not_lt fun hlt => ?_
  obtain ⟨N, hN⟩ : ∃ N, zs.length = N + 1 := ⟨zs.length - 1, by omega⟩
  have h1 := canon_ge h hN
  have h2 := pwm_mono (show k ≤ N by omega)
  omega
theorem sum_len3 {xs ys zs : List Int} (hx : WF xs) (hy : WF ys) (hz : Canon zs) (h : val zs = val xs + val ys) : zs.length ≤ xs.length + ys.length + 1 := by
  refine lenm_of_lt hz ?_
  have h1 := val_lt_pw hx
  have h2 := val_lt_pw hy
  have h3 := pwm_mono (show xs.length ≤ xs.length + ys.length by omega)
  have h4 := pwm_mono (show ys.length ≤ xs.length + ys.length by omega)
  have h5 := pw_pos (xs.length + ys.length)
  have h6 : pw (xs.length + ys.length + 1) = wB * pw (xs.length + ys.length) := rfl
  have h7 : wB = 18446744073709551616 := rfl
  rw [h6, h7]
  omega
theorem mul_len3 {xs ys zs : List Int} (hx : WF xs) (hy : WF ys) (hz : Canon zs) (h : val zs = val xs * val ys) : zs.length ≤ xs.length + ys.length :=
  lenm_of_lt hz (by rw [h]; exact val_mul_lt hx hy)
theorem own_sl {B : Nat} {w : World} {v : Value} {zs : List Int} (h : Own B w v zs) : Sl w.heap.size w v zs := h.sl
theorem ig_mul {q d : Int} (hq : 0 ≤ q) (hd : 0 ≤ d) : (ig (q * d) d : Int) = d := by
  obtain ⟨Q, rfl⟩ := Int.eq_ofNat_of_zero_le hq
  obtain ⟨D, rfl⟩ := Int.eq_ofNat_of_zero_le hd
  unfold ig
  rw [← Int.natCast_mul]
  simp only [Int.toNat_natCast]
  rw [Nat.gcd_eq_right (Nat.dvd_mul_left D Q)]

set_option maxHeartbeats 3200000 in
set_option maxRecDepth 100000 in
theorem divnatBuilt_any {w : World} {vq vb vr : Value} {qs bs rs : List Int} (hq : Sl w.heap.size w vq qs) (hb : Sl w.heap.size w vb bs) (hr : Sl w.heap.size w vr rs) (lq : qs.length ≤ 1048576) (lb : bs.length ≤ 1048576) (lr : rs.length ≤ 1048576) :
    Calls Try.prog 4 #[vq, vb, vr] w fun e w' => e = .returned (.bool true) ∧ Below w.heap.size w w' := by
  have SQ := hid hq
  have SB := hid hb
  have SR := hid hr
  have HW := wakes3_any w
  have q0 := val_nonneg hq.1
  have b0 := val_nonneg hb.1
  have r0 := val_nonneg hr.1
  have z0 : ((0 : Int) != 0) = false := rfl
  clear hq hb hr
  go_enter Try.func4, Try.ntmps4
  go_wp2_with fail
  refine HW.mono ?_
  rintro e w1 ⟨rfl, b1⟩
  have K1 := hid b1
  have H1 := hid (radd_any (SB.out.now b1) (SR.out.now b1) (by omega) (by omega))
  clear HW b1
  go_wp2_with fail
  refine H1.out.mono ?_
  rintro e w2 ⟨d1, v1, rfl, o1, c1, e1, b2⟩
  have l1 := sum_len3 SB.out.1 SR.out.1 c1 e1
  have K2 := hid (below_step K1.out b2)
  have S1 := hid (o1.sl.later (.cells #[.int .u64 1] 26))
  have SL : Hid (Sl (w2.alloc (.cells #[.int .u64 1] 26)).heap.size (w2.alloc (.cells #[.int .u64 1] 26)) (.slice (some ⟨w2.heap.size, 0, none⟩) 1 1) [1]) := lit_last w2 [1] _ rfl (wf_word (by omega) WF.nil) (by simp) 1 rfl
  have H2 := hid (radd_any S1.out SL.out (by omega) (by simp))
  have KL := hid (below_step K2.out ((Below.refl w2.heap.size w2).alloc (Nat.le_refl _) (.cells #[.int .u64 1] 26)))
  have E1 := hid e1
  clear H1 o1 b2 e1 S1 SL
  go_wp2_with fail
  refine H2.out.mono ?_
  rintro e w3 ⟨ds, vd, rfl, od, cd, ed, b3⟩
  have v11 : val [1] = 1 := by simp [val]
  have ld := sum_len3 c1.1 (ys := [1]) (wf_word (by omega) WF.nil) cd ed
  simp only [List.length_cons, List.length_nil] at ld
  have hD : val ds = val bs + val rs + 1 := by rw [ed, E1.out, v11]
  have K3 := hid (below_step KL.out b3)
  have SD := hid od.sl
  have H3 := hid (rmul_any (SQ.out.now K3.out) od.sl (by omega) (by omega))
  have HD := hid hD
  clear H2 od b3 ed hD K2 KL
  go_wp2_with fail
  refine H3.out.mono ?_
  rintro e w4 ⟨ps, vp, rfl, op, cp, ep, b4⟩
  have lp := mul_len3 SQ.out.1 SD.out.1 cp ep
  have K4 := hid (below_step K3.out b4)
  have SP4 := hid op.sl
  have SD4 := hid (SD.out.now b4)
  have H4 := hid (radd_any op.sl (SR.out.now K4.out) (by omega) (by omega))
  have EP := hid ep
  clear H3 op b4 ep K3 SD
  go_wp2_with fail
  refine H4.out.mono ?_
  rintro e w5 ⟨ns, vn', rfl, on, cn, en, b5⟩
  have ln := sum_len3 cp.1 SR.out.1 cn en
  have K5 := hid (below_step K4.out b5)
  have SP5 := hid (SP4.out.now b5)
  have SD5 := hid (SD4.out.now b5)
  have hdw : wid ds ≠ 0 := fun e => by have := wid_zero_val ds e; have := HD.out; omega
  have H5 := hid (divMod_any on.sl SD5.out hdw (by omega) (by omega))
  have EN := hid en
  clear H4 on b5 en K4 SP4 SD4
  go_wp2_with fail
  refine H5.out.mono ?_
  rintro e w6 ⟨us, vs, ru, rv, rfl, ou, ov, cu, cv, ev, hlt, hlu, hlv, _, b6⟩
  have hun : val us = val qs ∧ val vs = val rs := by
    refine div_one (X := val ns) (Y := val ds) (q := val qs) (r := val rs) ?_ ev r0 (by have := HD.out; omega) (val_nonneg cv.1) hlt
    rw [EN.out, EP.out, Int.mul_comm]
  have K6 := hid (below_step K5.out b6)
  have SU := hid ou.sl
  have SV := hid ov.sl
  have SP6 := hid (SP5.out.now b6)
  have SD6 := hid (SD5.out.now b6)
  have H6 := hid (rleast_any (SQ.out.now K6.out) (by omega))
  have HU := hid hun
  obtain ⟨ua, uc, rfl⟩ := ou.form
  obtain ⟨va', vc', rfl⟩ := ov.form
  clear H5 ou ov b6 ev hlt K5 SP5 SD5 hun
  go_wp2_with fail
  refine H6.out.mono ?_
  rintro e w7 ⟨l1s, vl1, rfl, ol1, cl1, el1, b7⟩
  have h7 : us = l1s := canon_inj cu cl1 (by rw [HU.out.1, el1])
  have H7 := hid (same_yes (SU.out.now b7) ol1.sl h7)
  have K7 := hid b7
  clear H6 ol1 el1 b7 h7
  go_wp2_with fail
  refine H7.out.mono ?_
  rintro e w8 ⟨rfl, b8⟩
  have K8 := hid (below_step K7.out b8)
  have H8 := hid (rleast_any (SR.out.now (below_step K6.out K8.out)) (by omega))
  clear H7 b8 K7
  go_wp2_with fail
  refine H8.out.mono ?_
  rintro e w9 ⟨l2s, vl2, rfl, ol2, cl2, el2, b9⟩
  have h9 : vs = l2s := canon_inj cv cl2 (by rw [HU.out.2, el2])
  have K9 := hid (below_step K8.out b9)
  have H9 := hid (same_yes (SV.out.now K9.out) ol2.sl h9)
  clear H8 ol2 el2 b9 h9 K8
  go_wp2_with fail
  refine H9.out.mono ?_
  rintro e w10 ⟨rfl, b10⟩
  have K10 := hid (below_step K9.out b10)
  have SP10 := hid (SP6.out.now K10.out)
  have SD10 := hid (SD6.out.now K10.out)
  have SU10 := hid (SU.out.now K10.out)
  have H10 := hid (exact_any SP10.out SD10.out hdw (by omega) (by omega))
  clear H9 b10 K9 SU SV SP6 SD6
  go_wp2_with fail
  refine H10.out.mono ?_
  rintro e w11 ⟨xs2, rs2, cx2, cr2, ex2, hlt2, hlx2, b11, hend⟩
  have hun2 : val xs2 = val qs ∧ val rs2 = 0 := by
    refine div_one (X := val ps) (Y := val ds) (q := val qs) (r := 0) ?_ ex2 (Int.le_refl 0) (by have := HD.out; omega) (val_nonneg cr2.1) hlt2
    rw [EP.out, Int.mul_comm]; omega
  have hr2 : rs2 = [] := canon_zero cr2 hun2.2
  rcases hend with ⟨_, xq, rfl, ox⟩ | ⟨hne, _⟩
  · have hxu : xs2 = us := canon_inj cx2 cu (by rw [hun2.1, HU.out.1])
    have K11 := hid (below_step K10.out b11)
    have H11 := hid (same_yes ox.sl (SU10.out.now b11) hxu)
    have SP11 := hid (SP10.out.now b11)
    have SD11 := hid (SD10.out.now b11)
    obtain ⟨xa, xc, rfl⟩ := ox.form
    clear H10 ox b11 ex2 hlt2 hun2 K10 SU10 SP10 SD10 hxu hr2
    go_wp2_with fail
    refine H11.out.mono ?_
    rintro e w12 ⟨rfl, b12⟩
    have K12 := hid (below_step K11.out b12)
    have SD12 := hid (SD11.out.now b12)
    have H12 := hid (gcd_any (SP11.out.now b12) SD12.out (by omega) (by omega))
    clear H11 b12 K11
    go_wp2_with fail
    refine H12.out.mono ?_
    rintro e w13 ⟨gs, vg, rfl, og, cg, eg, b13⟩
    have hg : gs = ds := canon_inj cg cd (by rw [eg, EP.out]; exact ig_mul q0 (by have := HD.out; omega))
    have K13 := hid (below_step K12.out b13)
    have H13 := hid (same_yes og.sl (SD12.out.now b13) hg)
    clear H12 og eg b13 hg K12
    go_wp2_with fail
    refine H13.out.mono ?_
    rintro e w14 ⟨rfl, b14⟩
    have K14 := hid (below_step K13.out b14)
    clear H13 b14
    go_wp2
    go_ret
    exact ⟨rfl, below_step K6.out K14.out⟩
  · exact absurd hr2 hne
end Go.Proofs.Ytfkdjmmhbamkhaa
