/-
  Digits: the walk of NatDigits.
-/
import Derived.Test.YthgnjjpoondidaaDoorTwos
import Derived.Test.YthgnjjpoondidaaDoorAwake
import Derived.Test.YthgnjjpoondidaaDoorNow
namespace Go.Proofs.YthgnjjpoondidaaDoor
open Go.RowKit

def HiAt (v T : Nat) (h : Int) : Prop := (h = -1 ∧ ∀ t, t < T → v.testBit t = false) ∨ ∃ n : Nat, h = (n : Int) ∧ n < T ∧ v.testBit n = true ∧ ∀ t, n < t → t < T → v.testBit t = false
def LoAt (v T : Nat) (l : Int) : Prop := (l = -1 ∧ ∀ t, t < T → v.testBit t = false) ∨ ∃ n : Nat, l = (n : Int) ∧ n < T ∧ v.testBit n = true ∧ ∀ t, t < n → v.testBit t = false
theorem HiAt.start (v : Nat) : HiAt v 0 (-1) := .inl ⟨rfl, fun t h => by omega⟩
theorem LoAt.start (v : Nat) : LoAt v 0 (-1) := .inl ⟨rfl, fun t h => by omega⟩
theorem HiAt.no {v T : Nat} {h : Int} (k : HiAt v T h) (hb : v.testBit T = false) : HiAt v (T + 1) h := by
  rcases k with ⟨h1, h2⟩ | ⟨n, h1, h2, h3, h4⟩
  · exact .inl ⟨h1, fun t ht => (Nat.lt_or_eq_of_le (Nat.le_of_lt_succ ht)).elim (h2 t) (fun e => by rw [e]; exact hb)⟩
  · exact .inr ⟨n, h1, by omega, h3, fun t ht ht' => (Nat.lt_or_eq_of_le (Nat.le_of_lt_succ ht')).elim (h4 t ht) (fun e => by rw [e]; exact hb)⟩
theorem HiAt.yes {v T : Nat} (hb : v.testBit T = true) : HiAt v (T + 1) (T : Int) := .inr ⟨T, rfl, by omega, hb, fun t h h' => by omega⟩
theorem LoAt.no {v T : Nat} {l : Int} (k : LoAt v T l) (hb : v.testBit T = false) : LoAt v (T + 1) l := by
  rcases k with ⟨h1, h2⟩ | ⟨n, h1, h2, h3, h4⟩
  · exact .inl ⟨h1, fun t ht => (Nat.lt_or_eq_of_le (Nat.le_of_lt_succ ht)).elim (h2 t) (fun e => by rw [e]; exact hb)⟩
  · exact .inr ⟨n, h1, by omega, h3, h4⟩
theorem LoAt.first {v T : Nat} {l : Int} (k : LoAt v T l) (hl : l < 0) (hb : v.testBit T = true) : LoAt v (T + 1) (T : Int) := by
  rcases k with ⟨h1, h2⟩ | ⟨n, h1, h2, h3, h4⟩
  · exact .inr ⟨T, rfl, by omega, hb, h2⟩
  · omega
theorem LoAt.later {v T : Nat} {l : Int} (k : LoAt v T l) (hl : ¬ l < 0) : LoAt v (T + 1) l := by
  rcases k with ⟨h1, h2⟩ | ⟨n, h1, h2, h3, h4⟩
  · omega
  · exact .inr ⟨n, h1, by omega, h3, h4⟩
theorem LoAt.bounds {v T : Nat} {l : Int} (k : LoAt v T l) : -1 ≤ l ∧ l < T := by
  rcases k with ⟨h1, _⟩ | ⟨n, h1, h2, _⟩ <;> omega
theorem HiAt.bounds {v T : Nat} {l : Int} (k : HiAt v T l) : -1 ≤ l ∧ l < T := by
  rcases k with ⟨h1, _⟩ | ⟨n, h1, h2, _⟩ <;> omega
theorem bit_past {v T t : Nat} (h : v < 2 ^ T) (ht : T ≤ t) : v.testBit t = false :=
  Nat.testBit_lt_two_pow (Nat.lt_of_lt_of_le h (Nat.pow_le_pow_right (by omega) ht))
theorem no_bits {v T : Nat} (h : v < 2 ^ T) (hz : ∀ t, t < T → v.testBit t = false) : v = 0 := by
  refine Nat.eq_of_testBit_eq (fun t => ?_)
  rw [Nat.zero_testBit]
  by_cases q : t < T
  · exact hz t q
  · exact bit_past h (by omega)
theorem hi_end {v T : Nat} {h : Int} (k : HiAt v T h) (hv : v < 2 ^ T) : (bitLen v : Int) = h + 1 := by
  rcases k with ⟨h1, h2⟩ | ⟨n, h1, h2, h3, h4⟩
  · rw [no_bits hv h2, h1]; rfl
  · have hge : 2 ^ n ≤ v := Nat.ge_two_pow_of_testBit h3
    have hlt : v < 2 ^ (n + 1) := Nat.lt_pow_two_of_testBit v (fun t ht => by
      by_cases q : t < T
      · exact h4 t (by omega) q
      · exact bit_past hv (by omega))
    have hp := Nat.two_pow_pos n
    have h0 : v ≠ 0 := by omega
    have : v.log2 = n := (Nat.log2_eq_iff h0).2 ⟨hge, hlt⟩
    unfold bitLen
    rw [if_neg h0, this, h1]; omega
theorem lo_end {v T : Nat} {l r : Int} (k : LoAt v T l) (hv : v < 2 ^ T) (hr : IsTwos v r) : r = l := by
  rcases k with ⟨h1, h2⟩ | ⟨n, h1, h2, h3, h4⟩
  · rcases hr with ⟨_, h5⟩ | ⟨t, _, h6⟩
    · omega
    · exact absurd (no_bits hv h2) (odd2_pos h6)
  · rcases hr with ⟨h5, _⟩ | ⟨t, h5, h6⟩
    · rw [h5] at h3; simp at h3
    · obtain ⟨h7, h8⟩ := odd2_bit h6
      rcases Nat.lt_trichotomy n t with q | q | q
      · rw [h8 n q] at h3; cases h3
      · omega
      · rw [h4 t q] at h7; cases h7
/-- A slice of numbers. -/
def SlI (B : Nat) (w : World) (v : Value) (ps : List Int) : Prop :=
  (∀ p ∈ ps, -9223372036854775808 ≤ p ∧ p ≤ 9223372036854775807) ∧ ∃ a cap, v = .slice a ps.length cap ∧ ps.length ≤ cap ∧ cap ≤ 35184372088832 ∧
    (ps = [] ∨ ∃ b off, a = some ⟨b, off, none⟩ ∧ b < B ∧ ∀ j (h : j < ps.length), w.cell? ⟨b, off + j, none⟩ = some (.int .i64 ps[j]))
theorem SlI.now {w w' : World} {v : Value} {xs : List Int} (h : SlI w.heap.size w v xs) (hb : Below w.heap.size w w') : SlI w'.heap.size w' v xs := by
  obtain ⟨h1, a, cap, h2, h3, h4, h5⟩ := h
  refine ⟨h1, a, cap, h2, h3, h4, ?_⟩
  rcases h5 with h5 | ⟨b, off, h6, h7, h8⟩
  · exact .inl h5
  · exact .inr ⟨b, off, h6, Nat.lt_of_lt_of_le h7 hb.size, fun j hj => (hb.cell (p := ⟨b, off + j, none⟩) h7).trans (h8 j hj)⟩
theorem test_bit {x : Int} (hx : IsW x) {v i k : Nat} (hv : v.testBit (64 * i + k) = x.toNat.testBit k) : ((x / 2 ^ k).tmod 2 == 1) = v.testBit (64 * i + k) := by
  rw [hv, bit_of]
  obtain ⟨n, rfl⟩ := Int.eq_ofNat_of_zero_le hx.1
  have e : (n : Int) / 2 ^ k = ((n / 2 ^ k : Nat) : Int) := by simp
  rw [e, Int.toNat_natCast, Bool.eq_iff_iff, beq_iff_eq, decide_eq_true_iff]
  generalize n / 2 ^ k = q
  rw [Int.tmod_eq_emod_of_nonneg (by omega)]
  omega
theorem word_bit {xs : List Int} (hw : WF xs) {i k : Nat} (hi : i < xs.length) (hk : k < 64) : (vn xs).testBit (64 * i + k) = xs[i].toNat.testBit k := by
  rw [vn_bit hw, show (64 * i + k) / 64 = i by omega, show (64 * i + k) % 64 = k by omega]
  simp [hi]
theorem want_bit {xs : List Int} (hw : WF xs) {n : Nat} (h : n / 64 < xs.length) : bitAt (vn xs) (n : Int) = (xs[n / 64] / 2 ^ (n % 64)).tmod 2 := by
  have hx := hw.get h
  have hv : bitAt (vn xs) (n : Int) = ((vn xs / 2 ^ n % 2 : Nat) : Int) := by unfold bitAt; rw [if_neg (by omega)]; simp
  rw [hv, bit_word hw h]
  generalize xs[n / 64] = x at *
  obtain ⟨m, rfl⟩ := Int.eq_ofNat_of_zero_le hx.1
  have e : (m : Int) / 2 ^ (n % 64) = ((m / 2 ^ (n % 64) : Nat) : Int) := by simp
  rw [e, Int.toNat_natCast]
  generalize m / 2 ^ (n % 64) = q
  rw [Int.tmod_eq_emod_of_nonneg (by omega)]
  omega
theorem want_none {xs : List Int} (hw : WF xs) {i : Int} (h : i < 0 ∨ (xs.length : Int) ≤ i / 64) : bitAt (vn xs) i = 0 := by
  unfold bitAt
  split
  · rfl
  · rename_i h0
    obtain ⟨n, rfl⟩ := Int.eq_ofNat_of_zero_le (show 0 ≤ i by omega)
    rw [Int.toNat_natCast, bit_beyond hw (by omega)]; rfl
theorem tmod_two {q : Int} (h : 0 ≤ q) : 0 ≤ q.tmod 2 ∧ q.tmod 2 ≤ 1 := by
  rw [Int.tmod_eq_emod_of_nonneg h]; omega
theorem lit04 : vn [0, 4] = 2 ^ 66 := by decide +kernel
theorem odd04 : Odd2 (vn [0, 4]) 66 := ⟨0, by decide +kernel⟩
theorem twos04 {r : Int} (h : IsTwos (vn [0, 4]) r) : r = 66 := by
  rcases h with ⟨h1, _⟩ | ⟨t, h1, h2⟩
  · rw [lit04] at h1; exact absurd h1 (by decide +kernel)
  · have ha := odd2_bit h2
    have hb := odd2_bit odd04
    rcases Nat.lt_trichotomy t 66 with q | q | q
    · rw [hb.2 t q] at ha; cases ha.1
    · omega
    · rw [ha.2 66 q] at hb; cases hb.1

set_option maxHeartbeats 4000000 in
theorem natDigits_any {w : World} {va vp : Value} {xs ps : List Int} (ha : Sl w.heap.size w va xs) (hp : SlI w.heap.size w vp ps) (hT : Tab w) (la : xs.length ≤ 17592186043904) :
    Calls Tryd.prog 6 #[va, vp] w fun e w' => e = .returned (.bool true) ∧ Below w.heap.size w w' := by
  have Q1 : Hid (bitAt (vn [0, 4]) 66 = 1) := by unfold Hid; rw [lit04]; decide +kernel
  have hw := ha.1
  go_enter Tryd.func6, Tryd.ntmps6
  go_wp2_with fail
  refine (awake_any _).mono ?_
  rintro e w1 ⟨rfl, k1⟩
  have a1 := ha.now k1
  have p1 := hp.now k1
  have t1 := hT.now k1
  clear ha hp hT
  go_wp2_with fail
  have kk := (Below.refl w1.heap.size w1).alloc (Nat.le_refl _) (.cells #[.int .u64 0, .int .u64 4] 48)
  have q0 := lit_last w1 [0, 4] #[.int .u64 0, .int .u64 4] rfl (wf_word (by omega) (wf_word (by omega) WF.nil)) (by simp) 2 rfl
  refine (bit_any q0 (i := 66) (by omega) (by omega)).mono ?_
  rintro e w2 ⟨rfl, rfl⟩
  rw [Q1.out]
  have a2 := a1.now kk
  have p2 := p1.now kk
  have t2 := t1.now kk
  have g2 := below_step k1 kk
  clear a1 p1 t1 q0 kk k1
  generalize hw2 : w1.alloc (.cells #[.int .u64 0, .int .u64 4] 48) = w2 at *
  clear hw2
  go_wp2_with fail
  have kk := (Below.refl w2.heap.size w2).alloc (Nat.le_refl _) (.cells #[.int .u64 0, .int .u64 4] 48)
  have q0 := lit_last w2 [0, 4] #[.int .u64 0, .int .u64 4] rfl (wf_word (by omega) (wf_word (by omega) WF.nil)) (by simp) 2 rfl
  refine (twos_any q0 (t2.now kk)).mono ?_
  rintro e w3 ⟨r, rfl, hr, rfl⟩
  obtain rfl := twos04 hr
  have a3 := a2.now kk
  have p3 := p2.now kk
  have t3 := t2.now kk
  have g3 := below_step g2 kk
  clear a2 p2 t2 q0 kk g2 hr
  generalize hw3 : w2.alloc (.cells #[.int .u64 0, .int .u64 4] 48) = w3 at *
  clear hw3 Q1
  have hs := hid a3
  have hps := hid p3
  have ht3 := hid t3
  obtain ⟨_, a, cap, rfl, hlc, hcm, hm⟩ := a3
  obtain ⟨hpw, ap, capp, rfl, hlp, hcp, hmp⟩ := p3
  have HB : Hid (∀ (i : Nat) (hi : i < xs.length) (k : Nat), k < 64 → ((xs[i] / 2 ^ k).tmod 2 == 1) = (vn xs).testBit (64 * i + k)) := fun i hi k hk => test_bit (hw.get hi) (word_bit hw hi hk)
  have HV := hid (vn_lt hw)
  have HW := hid hw
  have HXB : Hid (∀ i (hi : i < xs.length), 0 ≤ xs[i] ∧ xs[i] ≤ 18446744073709551615) := fun i hi => by have := hw.get hi; unfold IsW wB at this; omega
  clear t3 hw
  go_wp2_with fail
  go_loop [5, 6, 7] (fun l h i => ∃ (k : Nat) (lo hi : Int), k ≤ xs.length ∧ i = .int .i64 k ∧ l = .int .i64 lo ∧ h = .int .i64 hi ∧ LoAt (vn xs) (64 * k) lo ∧ HiAt (vn xs) (64 * k) hi) (fun _ _ i => xs.length - (intOf i).toNat)
  case atStart => exact ⟨0, -1, -1, Nat.zero_le _, rfl, rfl, rfl, LoAt.start _, HiAt.start _⟩
  case round =>
    obtain ⟨k, lo, hi, hk, rfl, rfl, rfl, hlo, hhi⟩ := hrel
    by_cases hlt : k < xs.length
    · rcases hm with e | ⟨b, off, rfl, hb, hc⟩
      · subst e; simp at hlt
      have c1 := hc k hlt
      have hxb := HXB.out k hlt
      have HT := hid (HB.out k hlt)
      generalize xs[k] = x at *
      clear hc
      go_wp2_with fail
      go_loop [5, 6, 8] (fun l h i => ∃ (j : Nat) (lo hi : Int), j ≤ 64 ∧ i = .int .i64 j ∧ l = .int .i64 lo ∧ h = .int .i64 hi ∧ LoAt (vn xs) (64 * k + j) lo ∧ HiAt (vn xs) (64 * k + j) hi) (fun _ _ i => 64 - (intOf i).toNat)
      case atStart => exact ⟨0, lo, hi, Nat.zero_le _, rfl, rfl, rfl, hlo, hhi⟩
      case round =>
        clear hlo hhi
        obtain ⟨j, lo, hi, hj, rfl, rfl, rfl, hlo, hhi⟩ := hrel
        have lb := hlo.bounds
        by_cases hjt : j < 64
        · have ht := HT.out j hjt
          cases hbit : (vn xs).testBit (64 * k + j)
          · rw [hbit] at ht
            have HBit := hid hbit
            clear hbit
            go_wp2
            go_round
            case rel => exact ⟨j + 1, lo, hi, by omega, by go_num, rfl, rfl, hlo.no HBit.out, hhi.no HBit.out⟩
            case measure => simp [intOf]; omega
          · rw [hbit] at ht
            have HBit := hid hbit
            clear hbit
            by_cases hl0 : lo < 0
            · go_wp2
              go_round
              case rel => exact ⟨j + 1, ((64 * k + j : Nat) : Int), ((64 * k + j : Nat) : Int), by omega, by go_num, by go_num, by go_num, hlo.first hl0 HBit.out, HiAt.yes HBit.out⟩
              case measure => simp [intOf]; omega
            · go_wp2
              go_round
              case rel => exact ⟨j + 1, lo, ((64 * k + j : Nat) : Int), by omega, by go_num, rfl, by go_num, hlo.later hl0, HiAt.yes HBit.out⟩
              case measure => simp [intOf]; omega
        · obtain rfl : j = 64 := by omega
          go_wp2
          go_round
          case rel => exact ⟨k + 1, lo, hi, by omega, by go_num, rfl, rfl, hlo, hhi⟩
          case measure => simp [intOf]; omega
    · obtain rfl : k = xs.length := by omega
      have hbd := hhi.bounds
      have hbl : ((bitLen (vn xs) : Int) != hi + 1) = false := by rw [hi_end hhi HV.out]; simp
      have HLO := hid hlo
      clear hhi hlo
      go_wp2_with fail
      refine (bitLen_any hs.out).mono ?_
      rintro e w4 ⟨rfl, rfl⟩
      generalize bitLen (vn xs) = bl at *
      go_wp2_with fail
      refine (twos_any hs.out ht3.out).mono ?_
      rintro e w5 ⟨r, rfl, hr, rfl⟩
      obtain rfl := lo_end HLO.out HV.out hr
      have hrr : (r != r) = false := by simp
      clear hr HLO hbl
      go_wp2_with fail
      go_loop [62] (fun i => ∃ k : Nat, k ≤ ps.length ∧ i = .int .i64 k) (fun i => ps.length - (intOf i).toNat)
      case atStart => exact ⟨0, Nat.zero_le _, rfl⟩
      case round =>
        obtain ⟨k, hk, rfl⟩ := hrel
        by_cases hlt : k < ps.length
        · rcases hmp with e | ⟨b, off, rfl, hb, hc⟩
          · subst e; simp at hlt
          have c1 := hc k hlt
          have hpb := hpw ps[k] (List.getElem_mem hlt)
          generalize ps[k] = p at *
          clear hc hpw hps
          have HBIT := hid (bit_any hs.out hpb.1 hpb.2)
          by_cases hin : 0 ≤ p ∧ p / 64 < xs.length
          · obtain ⟨n, rfl⟩ := Int.eq_ofNat_of_zero_le hin.1
            have hn : n / 64 < xs.length := by omega
            have HWB := hid (want_bit HW.out hn)
            rcases hm with e | ⟨b', off', rfl, hb', hc'⟩
            · subst e; simp at hn
            have c2 := hc' (n / 64) hn
            have hxb := HXB.out (n / 64) hn
            generalize xs[n / 64] = x at *
            clear hc' HB HXB
            obtain ⟨hin1, hin2⟩ := hin
            go_wp2_with fail
            refine HBIT.out.mono ?_
            rintro e w6 ⟨rfl, rfl⟩
            rw [HWB.out]
            have htb : 0 ≤ (x / 2 ^ (n % 64)).tmod 2 ∧ (x / 2 ^ (n % 64)).tmod 2 ≤ 1 := tmod_two (Int.ediv_nonneg hxb.1 (Int.le_of_lt (Int.pow_pos (by omega))))
            generalize (x / 2 ^ (n % 64)).tmod 2 = T at *
            obtain ⟨htb1, htb2⟩ := htb
            have hwr : wrap64 T = T := by unfold wrap64; omega
            have hnn : (T != T) = false := by simp
            clear HWB
            go_wp2
            go_round
            case rel => exact ⟨k + 1, by omega, by go_num⟩
            case measure => simp [intOf]; omega
          · have HWB := hid (want_none HW.out (i := p) (by omega))
            clear HB HXB
            go_wp2_with fail
            all_goals
              refine HBIT.out.mono ?_
              rintro e w6 ⟨rfl, rfl⟩
              rw [HWB.out]
              have hnn : ((0 : Int) != 0) = false := rfl
              go_wp2
              go_round
              case rel => exact ⟨k + 1, by omega, by go_num⟩
              case measure => simp [intOf]; omega
        · go_wp2
          go_ret
          exact ⟨rfl, g3⟩
end Go.Proofs.YthgnjjpoondidaaDoor
