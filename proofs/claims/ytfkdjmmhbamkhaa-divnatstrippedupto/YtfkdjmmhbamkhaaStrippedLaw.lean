/-
  StrippedLaw: the walk of DivnatStripped.
-/
import Derived.Test.YtfkdjmmhbamkhaaAtMost
namespace Go.Proofs.Ytfkdjmmhbamkhaa
open Go.RowKit
set_option linter.unusedVariables false

theorem strip_less {y z z' : Int} {n n' : Nat} (hy : 2 ≤ y) (hz : NoDiv y z) (h : y ^ n * z = y ^ n' * z') : ¬ n < n' := fun hlt => by
  obtain ⟨d, rfl⟩ : ∃ d, n' = n + (d + 1) := ⟨n' - n - 1, by omega⟩
  rw [Int.pow_add, Int.mul_assoc] at h
  have hp : y ^ n ≠ 0 := Int.ne_of_gt (Int.pow_pos (by omega))
  have h2 := Int.eq_of_mul_eq_mul_left hp h
  rw [Int.pow_succ, Int.mul_comm (y ^ d), Int.mul_assoc] at h2
  exact hz _ h2
theorem strip_one {y z z' : Int} {n n' : Nat} (hy : 2 ≤ y) (hz : NoDiv y z) (hz' : NoDiv y z') (h : y ^ n * z = y ^ n' * z') : n' = n ∧ z' = z := by
  have h1 := strip_less hy hz h
  have h2 := strip_less hy hz' h.symm
  obtain rfl : n' = n := by omega
  exact ⟨rfl, (Int.eq_of_mul_eq_mul_left (Int.ne_of_gt (Int.pow_pos (by omega))) h).symm⟩
theorem more_len {xs ys zs : List Int} (hx : WF xs) (hy : WF ys) (hz : Canon zs) : ∀ {i : Nat}, val zs = val xs * val ys ^ i → zs.length ≤ xs.length + i * ys.length := by
  intro i h
  refine len_of_lt hz ?_
  have hp : ∀ i : Nat, val ys ^ i ≤ pw (i * ys.length) := by
    intro i
    induction i with
    | zero => simp [pw]
    | succ i ih =>
      rw [Int.pow_succ, Nat.succ_mul, pw_add]
      have a1 := val_lt_pw hy
      have a2 := val_nonneg hy
      exact Int.mul_le_mul ih (by omega) a2 (Int.le_of_lt (pw_pos _))
  have h1 := val_lt_pw hx
  have h2 := val_nonneg hx
  have h3 := hp i
  have h4 : val xs * val ys ^ i ≤ val xs * pw (i * ys.length) := Int.mul_le_mul_of_nonneg_left h3 h2
  have h5 : val xs * pw (i * ys.length) < pw xs.length * pw (i * ys.length) := Int.mul_lt_mul_of_pos_right h1 (pw_pos _)
  rw [h, pw_add]
  omega
theorem nodiv_rest {X Y : Int} {qs rs : List Int} (hd : NoDiv Y X) (h : X = Y * val qs + val rs) : rs ≠ [] := fun e => by
  subst e
  exact hd (val qs) (by rw [h]; simp [val])

set_option maxHeartbeats 6400000 in
set_option maxRecDepth 100000 in
theorem divnatStripped_any {w : World} {va vb : Value} {xs ys : List Int} {W : Int} (ha : Sl w.heap.size w va xs) (hb : Sl w.heap.size w vb ys) (hW : IsW W) (lx : xs.length ≤ 1048576) (ly : ys.length ≤ 1048576) :
    Calls Try.prog 7 #[va, vb, .int .u64 W] w fun e w' => e = .returned (.bool true) ∧ Below w.heap.size w w' := by
  have HA0 := hid ha
  have HB0 := hid hb
  have HW := wakes3_any w
  have hxn := val_nonneg ha.1
  have hyn := val_nonneg hb.1
  have hvx := val_vn ha.1
  have hvy := val_vn hb.1
  clear ha hb
  go_enter Try.func7, Try.ntmps7
  go_wp2_with fail
  refine HW.mono ?_
  rintro e w1 ⟨rfl, b1⟩
  have B1 := hid b1
  have HA1 := hid (HA0.out.now b1)
  have HB1 := hid (HB0.out.now b1)
  clear HW b1
  by_cases hno : val xs = 0 ∨ val ys < 2
  · have HS := hid (strip3_not HA1.out HB1.out hno)
    have HL1 := hid (rbitLen_any HA1.out (by omega))
    go_wp2_with fail
    refine HS.out.mono ?_
    rintro e w2 ⟨rfl, rfl⟩
    clear HS
    have z3 : ((3 : Int) == 3) = true := rfl
    have z0 : ((0 : Int) == 0) = true := rfl
    by_cases h0 : val xs = 0
    · have e0 : bitLen (vn xs) = 0 := by rw [show vn xs = 0 by omega]; rfl
      rw [e0] at HL1
      go_wp2_with fail
      refine HL1.out.mono ?_
      rintro e w3 ⟨rfl, b3⟩
      have B3 := hid (below_step B1.out b3)
      clear HL1 b3
      go_wp2
      go_ret
      exact ⟨rfl, B3.out⟩
    · have hm0 : bitLen (vn xs) ≠ 0 := bitLen_pos (by omega)
      have hk2 : bitLen (vn ys) < 2 := bitLen_less (by omega)
      obtain ⟨m, hm⟩ : ∃ m, bitLen (vn xs) = m := ⟨_, rfl⟩
      obtain ⟨k, hk⟩ : ∃ k, bitLen (vn ys) = k := ⟨_, rfl⟩
      rw [hm] at HL1 hm0
      have HK := hid hk
      rw [hk] at hk2
      clear hm hk
      have z1 : ((m : Int) == 0) = false := by rw [beq_eq_false_iff_ne]; omega
      have z2 : (k : Int) < 2 := by omega
      go_wp2_with fail
      refine HL1.out.mono ?_
      rintro e w3 ⟨rfl, b3⟩
      have HL2 := hid (rbitLen_any (HB1.out.now b3) (by omega))
      rw [HK.out] at HL2
      have B3 := hid (below_step B1.out b3)
      clear HL1 b3
      go_wp2_with fail
      refine HL2.out.mono ?_
      rintro e w4 ⟨rfl, b4⟩
      have B4 := hid (below_step B3.out b4)
      clear HL2 b4
      go_wp2
      go_ret
      exact ⟨rfl, B4.out⟩
  · have hx : 0 < val xs := by omega
    have hy : 2 ≤ val ys := by omega
    have HS := hid (strip3_any HA1.out HB1.out hx hy (by omega) (by omega))
    go_wp2_with fail
    refine HS.out.mono ?_
    rintro e w2 ⟨n, ls, vl, rfl, hol, hcl, hvl, hnl, hlp, hll, b2⟩
    have hn1 := strip_count HA0.out.1 hy hlp hvl
    have hpk : val ys ^ n ≤ val xs := by
      have h0 : 0 < val ys ^ n := Int.pow_pos (by omega)
      have := Int.mul_le_mul_of_nonneg_left (show 1 ≤ val ls by omega) (Int.le_of_lt h0)
      rw [Int.mul_one] at this
      omega
    have hnm : ¬ bitLen (vn xs) < n := by
      have h1 : (2 : Int) ^ n ≤ val xs := Int.le_trans (two_le_pow hy n) hpk
      unfold bitLen
      rw [if_neg (by omega)]
      have : n ≤ Nat.log2 (vn xs) := (Nat.le_log2 (by omega)).2 (by
        rw [cast_pow, hvx] at h1
        omega)
      omega
    have hm0 : bitLen (vn xs) ≠ 0 := bitLen_pos (by omega)
    have hk2 : ¬ bitLen (vn ys) < 2 := bitLen_two (by omega)
    have B2 := hid (below_step B1.out b2)
    have HA2 := hid (HA1.out.now b2)
    have HB2 := hid (HB1.out.now b2)
    have SL := hid hol.sl
    have HVL := hid hvl
    have HNL := hid hnl
    obtain ⟨la, lc, rfl⟩ := hol.form
    have HL1 := hid (rbitLen_any HA2.out (by omega))
    obtain ⟨m, hm⟩ : ∃ m, bitLen (vn xs) = m := ⟨_, rfl⟩
    obtain ⟨k, hk⟩ : ∃ k, bitLen (vn ys) = k := ⟨_, rfl⟩
    rw [hm] at HL1 hm0 hnm
    have HMM := hid hm
    have HK := hid hk
    rw [hk] at hk2
    clear hm hk HS hol b2 hvl hnl HA0 HB0 HA1 HB1
    have z0 : ((0 : Int) != 0) = false := rfl
    have z1 : ((m : Int) == 0) = false := by rw [beq_eq_false_iff_ne]; omega
    have z2 : ¬ (k : Int) < 2 := by omega
    have z3 : ¬ (n : Int) < 0 := by omega
    have z4 : ¬ (m : Int) < (n : Int) := by omega
    have z8 : ((8 : Int) != 8) = false := rfl
    go_wp2_with fail
    refine HL1.out.mono ?_
    rintro e w3 ⟨rfl, b3⟩
    have HL2 := hid (rbitLen_any (HB2.out.now b3) (by omega))
    rw [HK.out] at HL2
    have B3 := hid b3
    clear HL1 b3
    go_wp2_with fail
    refine HL2.out.mono ?_
    rintro e w4 ⟨rfl, b4⟩
    have B4 := hid (below_step B3.out b4)
    have HL3 := hid (rbitLen_any (HA2.out.now B4.out) (by omega))
    rw [HMM.out] at HL3
    clear HL2 b4 B3
    go_wp2_with fail
    refine HL3.out.mono ?_
    rintro e w5 ⟨rfl, b5⟩
    have B5 := hid (below_step B4.out b5)
    have HLE := hid (least3_yes (SL.out.now B5.out) hcl)
    clear HL3 b5 B4
    go_wp2_with fail
    refine HLE.out.mono ?_
    rintro e w6 ⟨rfl, rfl⟩
    have HEX := hid (exact_any (SL.out.now B5.out) (HB2.out.now B5.out) (wid_ne (by omega)) (by omega) (by omega))
    clear HLE
    go_wp2_with fail
    refine HEX.out.mono ?_
    rintro e w7 ⟨qs, rs, hcq, hcr, hv, hlt, hlq, b7, hend⟩
    have hrs := nodiv_rest HNL.out hv
    rcases hend with ⟨hr0, _⟩ | ⟨_, rfl⟩
    · exact absurd hr0 hrs
    have B7 := hid (below_step B5.out b7)
    have HAM := hid (atMost_yes (HB2.out.now B7.out) (HA2.out.now B7.out) hy hpk (by omega) (by omega))
    clear HEX b7 hv hlt hcq hcr hrs B5 hlq
    go_wp2_with fail
    refine HAM.out.mono ?_
    rintro e w8 ⟨rfl, b8⟩
    have B8 := hid (below_step B7.out b8)
    have SA := hid (HA2.out.now B8.out)
    have SB := hid (HB2.out.now B8.out)
    have SLL := hid (SL.out.now B8.out)
    have BW := hid (below_step B2.out B8.out)
    have SP : Hid (Sl (w8.alloc (.cells #[.int .u64 1] 26)).heap.size (w8.alloc (.cells #[.int .u64 1] 26)) (.slice (some ⟨w8.heap.size, 0, none⟩) 1 1) [1]) := lit_last w8 [1] _ rfl canon_one.1 (by simp) 1 rfl
    have HB0 := hid ((Below.refl w8.heap.size w8).alloc (Nat.le_refl _) (.cells #[.int .u64 1] 26))
    have HPK := hid hpk
    have hn40 : n < 2 ^ 41 := by have : (2 : Nat) ^ 41 = 2199023255552 := by decide
                                 omega
    clear HAM b8 B7 B8 HA2 HB2 SL B1 B2 hpk
    go_wp2_with fail
    go_loopg [13, 14] 41 (fun g s13 s14 wx => ∃ zs : List Int, s14 = .int .i64 ((2 ^ g / 2 : Nat) : Int) ∧ g ≤ 41 ∧ Hid (Sl wx.heap.size wx s13 zs) ∧ Canon zs ∧ Hid (val zs = val ys ^ (n / 2 ^ g)) ∧ Hid (Below w8.heap.size w8 wx))
    case atStart => exact ⟨[1], rfl, Nat.le_refl _, SP, canon_one, by unfold Hid; rw [Nat.div_eq_of_lt hn40]; simp [val], HB0⟩
    case round =>
      clear SP HB0
      obtain ⟨zs, rfl, hg41, SZ, hcz, HVZ, BZ⟩ := hrel
      cases gk with
      | zero =>
        have e0 : 2 ^ 0 / 2 = 0 := rfl
        rw [e0]
        have hvz : val zs = val ys ^ n := by have := HVZ.out; simpa using this
        have hlz : zs.length ≤ xs.length := pow_len SA.out.1 hcz (by rw [hvz]; exact HPK.out)
        have HMU := hid (rmul_any SZ.out (SLL.out.now BZ.out) (by omega) (by omega))
        have HVN := hid hvz
        clear HVZ hvz
        go_wp2_with fail
        refine HMU.out.mono ?_
        rintro e w9 ⟨ps, vp, rfl, hop, hcp, hvp, b9⟩
        have hpx : val ps = val xs := by rw [hvp, HVN.out, HVL.out]
        have B9 := hid (below_step BZ.out b9)
        have HLS := hid (rleast_any (SA.out.now B9.out) (by omega))
        have SP9 := hid hop.sl
        have HPX := hid hpx
        clear HMU hop hvp b9 hpx
        go_wp2_with fail
        refine HLS.out.mono ?_
        rintro e w10 ⟨ns, vn', rfl, hon, hcn, hvn, b10⟩
        have he : ps = ns := canon_inj hcp hcn (by rw [HPX.out, hvn])
        have HSM := hid (same_yes (SP9.out.now b10) hon.sl he)
        have SP10 := hid (SP9.out.now b10)
        have B10 := hid (below_step B9.out b10)
        clear HLS hon hcn hvn b10 he SP9 SZ
        go_wp2_with fail
        refine HSM.out.mono ?_
        rintro e w11 ⟨rfl, b11⟩
        have B11 := hid (below_step B10.out b11)
        have SP11 := hid (SP10.out.now b11)
        clear HSM b11 SP10
        have hw0 := hW.1
        have hw1 : W < 18446744073709551616 := by have := hW.2; unfold wB at this; exact this
        obtain ⟨mm, hmm⟩ : ∃ mm : Nat, W % 24 = (mm : Int) := ⟨(W % 24).toNat, by omega⟩
        have hmm24 : mm < 24 := by omega
        go_wp2_with fail
        rw [hmm]
        go_loopw [13, 16] (fun s13 s16 wx => ∃ (i : Nat) (zs : List Int), i ≤ mm ∧ s16 = .int .i64 (i : Int) ∧ Hid (Sl wx.heap.size wx s13 zs) ∧ Canon zs ∧ Hid (val zs = val xs * val ys ^ i) ∧ Hid (Below w8.heap.size w8 wx)) (fun _ s16 _ => mm - (intOf s16).toNat)
        case atStart => exact ⟨0, ps, Nat.zero_le _, rfl, SP11, hcp, by unfold Hid; rw [HPX.out]; simp, B11⟩
        case round =>
          clear SP11 B11 HPX hcp B9 B10 BZ HVN
          obtain ⟨i, zs2, him, rfl, SZ2, hcz2, HVZ2, BZ2⟩ := hrel
          have hl2 := more_len SA.out.1 SB.out.1 hcz2 HVZ2.out
          have hl3 : i * ys.length ≤ 24 * 1048576 := Nat.mul_le_mul (by omega) ly
          by_cases hlt : i < mm
          · have HM2 := hid (rmul_any SZ2.out (SB.out.now BZ2.out) (by omega) (by omega))
            go_wp2_with fail
            refine HM2.out.mono ?_
            rintro e w12 ⟨zs3, v3, rfl, ho3, hc3, hv3, b12⟩
            have B12 := hid (below_step BZ2.out b12)
            have HO3 := hid ho3.sl
            have HV3 : Hid (val zs3 = val xs * val ys ^ (i + 1)) := by unfold Hid; rw [hv3, HVZ2.out, Int.pow_succ, Int.mul_assoc]
            clear HM2 ho3 hv3 b12
            go_wp2_with fail
            go_roundw
            case rel => exact ⟨i + 1, zs3, by omega, by go_num, HO3, hc3, HV3, B12⟩
            case measure => simp [intOf]; omega
          · obtain rfl : i = mm := by omega
            have hzp : 0 < val zs2 := by rw [HVZ2.out]; exact Int.mul_pos hx (Int.pow_pos (by omega))
            have HST := hid (strip3_any SZ2.out (SB.out.now BZ2.out) hzp hy (by omega) (by omega))
            go_wp2_with fail
            refine HST.out.mono ?_
            rintro e w13 ⟨n2, ls2, vl2, rfl, hol2, hcl2, hvl2, hnl2, hlp2, hll2, b13⟩
            have hkey : val ys ^ (n + i) * val ls = val ys ^ n2 * val ls2 := by
              rw [← hvl2, HVZ2.out, HVL.out, Int.pow_add, Int.mul_assoc, Int.mul_assoc, Int.mul_comm (val ys ^ i)]
            obtain ⟨hnn, hzz⟩ := strip_one hy HNL.out hnl2 hkey
            have hls : ls2 = ls := canon_inj hcl2 hcl hzz
            have B13 := hid (below_step BZ2.out b13)
            have HSM2 := hid (same_yes hol2.sl (SLL.out.now B13.out) hls)
            obtain ⟨la2, lc2, rfl⟩ := hol2.form
            have zz0 : ((0 : Int) == 0) = true := rfl
            have en : (n2 : Int) = (n : Int) + (i : Int) := by omega
            have ze : ((n2 : Int) == (n : Int) + (i : Int)) = true := by rw [beq_iff_eq]; exact en
            clear HST hol2 hvl2 hnl2 b13 hkey hzz hnn
            subst hls
            have zq : (((n : Int) + (i : Int)) == (n : Int) + (i : Int)) = true := by simp
            go_wp2_with fail
            refine HSM2.out.mono ?_
            rintro e w14 ⟨rfl, b14⟩
            have B14 := hid (below_step B13.out b14)
            clear HSM2 b14
            go_wp2
            go_ret
            exact ⟨rfl, below_step BW.out B14.out⟩
      | succ i =>
        rw [two_half]
        obtain ⟨Q, hQ⟩ : ∃ Q, 2 ^ i = Q := ⟨_, rfl⟩
        have HPI := hid hQ
        have hQ1 : 1 ≤ Q := by rw [← hQ]; exact Nat.two_pow_pos i
        have hQ2 : Q ≤ 1099511627776 := by
          rw [← hQ]
          exact Nat.le_trans (Nat.pow_le_pow_right (by omega) (show i ≤ 40 by omega)) (by decide)
        rw [hQ]
        clear hQ
        have hlz : zs.length ≤ xs.length := pow_len SA.out.1 hcz (by rw [HVZ.out]; exact Int.le_trans (pow_up (by omega) (Nat.div_le_self _ _)) HPK.out)
        have HM1 := hid (rmul_any SZ.out SZ.out (by omega) (by omega))
        obtain ⟨kq, hkq⟩ : ∃ kq, n / Q = kq := ⟨_, rfl⟩
        have ek : (n : Int) / (Q : Int) = (kq : Int) := by rw [← hkq]; simp
        have et : (n : Int).tdiv (Q : Int) = (kq : Int) := by rw [← hkq]; exact (Int.ofNat_tdiv n Q).symm
        have hkq1 : kq ≤ n := by rw [← hkq]; exact Nat.div_le_self _ _
        have r1 : (0 : Int) < (Q : Int) := by omega
        have r2 : ¬ (Q : Int) = 0 := by omega
        have r3 : ((Q : Int) == 0) = false := by rw [beq_eq_false_iff_ne]; omega
        go_wp2_with fail
        refine HM1.out.mono ?_
        rintro e w9 ⟨zs2, v2, rfl, ho2, hc2, hv2, b9⟩
        have HO2 := hid ho2
        have HV2 := hid hv2
        have B9 := hid (below_step BZ.out b9)
        have hl2 : zs2.length ≤ xs.length := by
          refine pow_len SA.out.1 hc2 ?_
          rw [hv2, HVZ.out, ← Int.pow_add]
          refine Int.le_trans (pow_up (by omega) ?_) HPK.out
          have := Nat.div_mul_le_self n (2 ^ (i + 1))
          have h2 : 2 ≤ 2 ^ (i + 1) := by rw [Nat.pow_succ]; have := Nat.two_pow_pos i; omega
          have h3 := Nat.mul_le_mul_left (n / 2 ^ (i + 1)) h2
          omega
        clear HM1 ho2 hv2 b9
        by_cases hodd : n / Q % 2 = 1
        · have r4 : ((kq : Int) % 2 == 1) = true := by rw [beq_iff_eq]; rw [hkq] at hodd; omega
          have r5 : (kq : Int) % 2 = 1 := by rw [hkq] at hodd; omega
          have HM2 := hid (rmul_any HO2.out.sl (SB.out.now B9.out) (by omega) (by omega))
          go_wp2_with fail
          refine HM2.out.mono ?_
          rintro e w10 ⟨zs3, v3, rfl, ho3, hc3, hv3, b10⟩
          have HV3 : Hid (val zs3 = val ys ^ (n / 2 ^ i)) := by unfold Hid; rw [hv3, HV2.out, HVZ.out, pow_bit (val ys) n i, if_pos (by rw [HPI.out]; exact hodd)]
          have B10 := hid (below_step B9.out b10)
          have HO3 := hid ho3.sl
          clear HM2 ho3 hv3 b10
          go_wp2_with fail
          go_roundg i
          case rel => exact ⟨zs3, by rw [HPI.out]; go_num, by omega, HO3, hc3, HV3, B10⟩
          case measure => omega
        · have r4 : ((kq : Int) % 2 == 1) = false := by rw [beq_eq_false_iff_ne]; rw [hkq] at hodd; omega
          have HV3 : Hid (val zs2 = val ys ^ (n / 2 ^ i)) := by unfold Hid; rw [HV2.out, HVZ.out, pow_bit (val ys) n i, if_neg (by rw [HPI.out]; exact hodd)]
          have HO3 := hid HO2.out.sl
          go_wp2_with fail
          go_roundg i
          case rel => exact ⟨zs2, by rw [HPI.out]; go_num, by omega, HO3, hc2, HV3, B9⟩
          case measure => omega
end Go.Proofs.Ytfkdjmmhbamkhaa
