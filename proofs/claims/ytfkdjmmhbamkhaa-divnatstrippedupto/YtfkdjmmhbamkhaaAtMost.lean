/-
  AtMost: the law's atMost, where the power is at most the number; powers by their binary digits.
-/
import Derived.Test.YtfkdjmmhbamkhaaStrip
import Derived.Test.YtfkdjmmhbamkhaaWakes3
import Derived.Test.YtfkdjmmhbamkhaaRMul
import Derived.Test.YtfkdjmmhbamkhaaRLeast
import Derived.Test.YtfkdjmmhbamkhaaRLen
import Derived.Deep.LoopGhost
namespace Go.Proofs.Ytfkdjmmhbamkhaa
open Go.RowKit
set_option linter.unusedVariables false

theorem pow_up {y : Int} (hy : 1 ≤ y) {m n : Nat} (h : m ≤ n) : y ^ m ≤ y ^ n := by
  obtain ⟨d, rfl⟩ := Nat.exists_eq_add_of_le h
  rw [Int.pow_add]
  have h1 : 0 < y ^ m := Int.pow_pos (by omega)
  have h2 : 0 < y ^ d := Int.pow_pos (by omega)
  have := Int.mul_le_mul_of_nonneg_left (show 1 ≤ y ^ d by omega) (Int.le_of_lt h1)
  rw [Int.mul_one] at this
  exact this
/-- One binary digit more of the exponent. -/
theorem pow_bit (y : Int) (k i : Nat) : y ^ (k / 2 ^ i) = if k / 2 ^ i % 2 = 1 then y ^ (k / 2 ^ (i + 1)) * y ^ (k / 2 ^ (i + 1)) * y else y ^ (k / 2 ^ (i + 1)) * y ^ (k / 2 ^ (i + 1)) := by
  have e : k / 2 ^ (i + 1) = k / 2 ^ i / 2 := by rw [Nat.pow_succ, Nat.div_div_eq_div_mul]
  rw [e]
  generalize k / 2 ^ i = m
  split
  · rename_i h
    rw [← Int.pow_add, ← Int.pow_succ]
    congr 1
    omega
  · rename_i h
    rw [← Int.pow_add]
    congr 1
    omega
theorem two_half (i : Nat) : 2 ^ (i + 1) / 2 = 2 ^ i := by rw [Nat.pow_succ]; omega
/-- A power that is at most a number is no longer than it. -/
theorem pow_len {xs zs : List Int} (hx : WF xs) (hz : Canon zs) (h : val zs ≤ val xs) : zs.length ≤ xs.length := by
  have h1 := canon_len_le hz (canon_lst hx) (by rw [val_lst]; exact h)
  rw [length_lst] at h1
  have := wid_le xs
  omega
theorem canon_one : Canon [1] := ⟨wf_word (by omega) WF.nil, rfl⟩

set_option maxHeartbeats 3200000 in
set_option maxRecDepth 100000 in
theorem atMost_yes {w : World} {vb va : Value} {xs ys : List Int} {k : Nat} (hb : Sl w.heap.size w vb ys) (ha : Sl w.heap.size w va xs) (hy : 2 ≤ val ys) (hk : val ys ^ k ≤ val xs) (lx : xs.length ≤ 274877906944) (ly : ys.length ≤ 549755813888) :
    Calls Try.prog 22 #[vb, .int .i64 (k : Int), va] w fun e w' => e = .returned (.bool true) ∧ Below w.heap.size w w' := by
  have hp0 : 0 < val ys ^ k := Int.pow_pos (by omega)
  have hxk : (2 : Int) ^ k ≤ val xs := Int.le_trans (two_le_pow hy k) hk
  have L1 := rbitLen_any hb (by omega)
  have HA := hid ha
  have HB := hid hb
  have hvx := val_vn ha.1
  have hvy := val_vn hb.1
  have hm0 : 0 < bitLen (vn xs) := Nat.pos_of_ne_zero (bitLen_pos (by omega))
  have hkm : k < bitLen (vn xs) := by
    unfold bitLen
    rw [if_neg (by omega)]
    have : k ≤ Nat.log2 (vn xs) := (Nat.le_log2 (by omega)).2 (by
      rw [cast_pow, hvx] at hxk
      omega)
    omega
  have hml : bitLen (vn xs) ≤ 64 * xs.length := by
    unfold bitLen
    rw [if_neg (by omega)]
    have := (Nat.log2_lt (n := vn xs) (k := 64 * xs.length) (by omega)).2 (vn_lt ha.1)
    omega
  have hn2 : ¬ bitLen (vn ys) < 2 := bitLen_two (by omega)
  have hnl : bitLen (vn ys) ≤ 64 * ys.length := by
    unfold bitLen
    rw [if_neg (by omega)]
    have := (Nat.log2_lt (n := vn ys) (k := 64 * ys.length) (by omega)).2 (vn_lt hb.1)
    omega
  have HLX := hid (show bitLen (vn xs) = bitLen (vn xs) from rfl)
  obtain ⟨n, hn⟩ : ∃ n, bitLen (vn ys) = n := ⟨_, rfl⟩
  obtain ⟨m, hm⟩ : ∃ m, bitLen (vn xs) = m := ⟨_, rfl⟩
  rw [hn] at L1 hn2 hnl
  rw [hm] at hm0 hkm hml
  have HM := hid hm
  have HK := hid hk
  clear ha hb hn hm hxk hk hvx hvy HLX
  go_enter Try.func22, Try.ntmps22
  go_wp2_with fail
  refine L1.mono ?_
  rintro e w1 ⟨rfl, b1⟩
  have L2 := hid (rbitLen_any (HA.out.now b1) (by omega))
  rw [HM.out] at L2
  have B1 := hid b1
  clear L1 b1
  have q1 : ¬ (n : Int) ≤ 1 := by omega
  have q2 : (0 : Int) < (m : Int) := by omega
  have q3 : ((n : Int) == 0) = false := by rw [beq_eq_false_iff_ne]; omega
  by_cases hk0 : k = 0
  · subst hk0
    have q4 : ((0 : Int) == 0) = true := rfl
    go_wp2_with fail
    refine L2.out.mono ?_
    rintro e w2 ⟨rfl, b2⟩
    have B2 := hid (below_step B1.out b2)
    clear L2 b2
    go_wp2
    go_ret
    exact ⟨rfl, B2.out⟩
  · have q4 : ((k : Int) == 0) = false := by rw [beq_eq_false_iff_ne]; omega
    have q5 : ¬ (m : Int) < (k : Int) := by omega
    go_wp2_with fail
    refine L2.out.mono ?_
    rintro e w2 ⟨rfl, b2⟩
    have B2 := hid (below_step B1.out b2)
    have HA2 := hid ((HA.out.now B1.out).now b2)
    have HB2 := hid ((HB.out.now B1.out).now b2)
    clear L2 b2 B1 HA HB
    go_wp2_with fail
    go_loopw [10] (fun s10 wx => ∃ L : Nat, s10 = .int .i64 ((2 ^ L : Nat) : Int) ∧ 2 ^ L ≤ k ∧ wx = w2.alloc (.cells #[.int .u64 1] 26)) (fun s10 _ => k - (intOf s10).toNat)
    case atStart => exact ⟨0, rfl, by simp; omega, rfl⟩
    case round =>
      obtain ⟨L, rfl, hL, rfl⟩ := hrel
      obtain ⟨P, hP⟩ : ∃ P, 2 ^ L = P := ⟨_, rfl⟩
      have HP := hid hP
      have hP1 : 1 ≤ P := by rw [← hP]; exact Nat.two_pow_pos L
      rw [hP] at hL
      rw [hP]
      clear hP
      by_cases hlt : P ≤ k / 2
      · have i1 : (P : Int) ≤ (k : Int) / 2 := by omega
        go_wp2_with fail
        go_roundw
        case rel => exact ⟨L + 1, by rw [Nat.pow_succ, HP.out]; go_num, by rw [Nat.pow_succ, HP.out]; omega, by first | rfl | trivial⟩
        case measure => simp [intOf]; omega
      · have i1 : ¬ (P : Int) ≤ (k : Int) / 2 := by omega
        have hkP : k < 2 ^ (L + 1) := by rw [Nat.pow_succ, HP.out]; omega
        have SP : Hid (Sl (w2.alloc (.cells #[.int .u64 1] 26)).heap.size (w2.alloc (.cells #[.int .u64 1] 26)) (.slice (some ⟨w2.heap.size, 0, none⟩) 1 1) [1]) := lit_last w2 [1] _ rfl canon_one.1 (by simp) 1 rfl
        have HB0 := hid ((Below.refl w2.heap.size w2).alloc (Nat.le_refl _) (.cells #[.int .u64 1] 26))
        go_wp2_with fail
        go_loopg [9, 10] (L + 1) (fun g s9 s10 wx => ∃ zs : List Int, s10 = .int .i64 ((2 ^ g / 2 : Nat) : Int) ∧ 2 ^ g / 2 ≤ k ∧ Hid (Sl wx.heap.size wx s9 zs) ∧ Canon zs ∧ Hid (val zs = val ys ^ (k / 2 ^ g)) ∧ Hid (Below w2.heap.size w2 wx))
        case atStart => exact ⟨[1], by rw [two_half, HP.out], by rw [two_half, HP.out]; exact hL, SP, canon_one, by unfold Hid; rw [Nat.div_eq_of_lt hkP]; simp [val], HB0⟩
        case round =>
          clear SP HB0
          obtain ⟨zs, rfl, hgk, SZ, hcz, HVZ, BZ⟩ := hrel
          cases gk with
          | zero =>
            have e0 : 2 ^ 0 / 2 = 0 := rfl
            rw [e0]
            go_wp2
            go_ret
            exact ⟨rfl, below_step B2.out BZ.out⟩
          | succ i =>
            rw [two_half] at hgk
            rw [two_half]
            obtain ⟨Q, hQ⟩ : ∃ Q, 2 ^ i = Q := ⟨_, rfl⟩
            have HPI := hid hQ
            have hQ1 : 1 ≤ Q := by rw [← hQ]; exact Nat.two_pow_pos i
            rw [hQ] at hgk
            rw [hQ]
            clear hQ
            have hlz : zs.length ≤ xs.length := pow_len HA2.out.1 hcz (by rw [HVZ.out]; exact Int.le_trans (pow_up (by omega) (Nat.div_le_self _ _)) HK.out)
            have HM1 := hid (rmul_any SZ.out SZ.out (by omega) (by omega))
            obtain ⟨kq, hkq⟩ : ∃ kq, k / Q = kq := ⟨_, rfl⟩
            have ek : (k : Int) / (Q : Int) = (kq : Int) := by rw [← hkq]; simp
            have et : (k : Int).tdiv (Q : Int) = (kq : Int) := by rw [← hkq]; exact (Int.ofNat_tdiv k Q).symm
            have hkq1 : kq ≤ k := by rw [← hkq]; exact Nat.div_le_self _ _
            have r1 : (0 : Int) < (Q : Int) := by omega
            have r2 : ¬ (Q : Int) = 0 := by omega
            have r3 : ((Q : Int) == 0) = false := by rw [beq_eq_false_iff_ne]; omega
            go_wp2_with fail
            refine HM1.out.mono ?_
            rintro e w3 ⟨zs2, v2, rfl, ho2, hc2, hv2, b3⟩
            have HO2 := hid ho2
            have HV2 := hid hv2
            have B3 := hid b3
            have hl2 : zs2.length ≤ xs.length := by
              refine pow_len HA2.out.1 hc2 ?_
              rw [hv2, HVZ.out, ← Int.pow_add]
              refine Int.le_trans (pow_up (by omega) ?_) HK.out
              have := Nat.div_mul_le_self k (2 ^ (i + 1))
              have h2 : 2 ≤ 2 ^ (i + 1) := by rw [Nat.pow_succ]; have := Nat.two_pow_pos i; omega
              have h3 := Nat.mul_le_mul_left (k / 2 ^ (i + 1)) h2
              omega
            clear HM1 ho2 hv2 b3
            by_cases hodd : k / Q % 2 = 1
            · have r4 : ((kq : Int) % 2 == 1) = true := by rw [beq_iff_eq]; rw [hkq] at hodd; omega
              have r5 : (kq : Int) % 2 = 1 := by rw [hkq] at hodd; omega
              have HM2 := hid (rmul_any HO2.out.sl (HB2.out.now (below_step BZ.out B3.out)) (by omega) (by omega))
              go_wp2_with fail
              refine HM2.out.mono ?_
              rintro e w4 ⟨zs3, v3, rfl, ho3, hc3, hv3, b4⟩
              have hval3 : val zs3 = val ys ^ (k / 2 ^ i) := by rw [hv3, HV2.out, HVZ.out, pow_bit (val ys) k i, if_pos (by rw [HPI.out]; exact hodd)]
              have hle3 : val zs3 ≤ val xs := by rw [hval3]; exact Int.le_trans (pow_up (by omega) (Nat.div_le_self _ _)) HK.out
              have hl3 := pow_len HA2.out.1 hc3 hle3
              have B4 := hid (below_step (below_step BZ.out B3.out) b4)
              have HO3 := hid ho3.sl
              have HC := hid (rcmp_any ho3.sl (HA2.out.now B4.out) (by omega) (by omega))
              have hcn : ¬ 0 < cmpI (val zs3) (val xs) := by
                rcases Int.lt_or_eq_of_le hle3 with t | t
                · rw [cmpI_lt t]; omega
                · rw [t, cmpI_self]; omega
              have HV3 := hid hval3
              generalize cmpI (val zs3) (val xs) = C at *
              clear HM2 ho3 hv3 b4 hval3 hle3
              go_wp2_with fail
              refine HC.out.mono ?_
              rintro e w5 ⟨rfl, b5⟩
              have B5 := hid (below_step B4.out b5)
              have HO5 := hid (HO3.out.now b5)
              clear HC b5
              go_wp2_with fail
              go_roundg i
              case rel => exact ⟨zs3, by rw [HPI.out]; go_num, by rw [HPI.out]; omega, HO5, hc3, HV3, B5⟩
              case measure => omega
            · have r4 : ((kq : Int) % 2 == 1) = false := by rw [beq_eq_false_iff_ne]; rw [hkq] at hodd; omega
              have hval3 : val zs2 = val ys ^ (k / 2 ^ i) := by rw [HV2.out, HVZ.out, pow_bit (val ys) k i, if_neg (by rw [HPI.out]; exact hodd)]
              have hle3 : val zs2 ≤ val xs := by rw [hval3]; exact Int.le_trans (pow_up (by omega) (Nat.div_le_self _ _)) HK.out
              have B4 := hid (below_step BZ.out B3.out)
              have HC := hid (rcmp_any HO2.out.sl (HA2.out.now B4.out) (by omega) (by omega))
              have hcn : ¬ 0 < cmpI (val zs2) (val xs) := by
                rcases Int.lt_or_eq_of_le hle3 with t | t
                · rw [cmpI_lt t]; omega
                · rw [t, cmpI_self]; omega
              have HV3 := hid hval3
              generalize cmpI (val zs2) (val xs) = C at *
              clear hval3 hle3
              go_wp2_with fail
              refine HC.out.mono ?_
              rintro e w5 ⟨rfl, b5⟩
              have B5 := hid (below_step B4.out b5)
              have HO5 := hid (HO2.out.sl.now b5)
              clear HC b5
              go_wp2_with fail
              go_roundg i
              case rel => exact ⟨zs2, by rw [HPI.out]; go_num, by rw [HPI.out]; omega, HO5, hc2, HV3, B5⟩
              case measure => omega
end Go.Proofs.Ytfkdjmmhbamkhaa
