/-
  RBits: the reference's BitLen, Twos, Bit.
-/
import Derived.Test.YtagfekcocdjhlaaDoorRLow
namespace Go.Proofs.YtagfekcocdjhlaaDoor
open Go.RowKit

/-- The number of a list of digits taken apart at one of them. -/
theorem at_digit {X : List Int} (hX : DF X) {i : Nat} (h : i < X.length) {V : Nat} (hV : dval X = (V : Int)) : ∃ A C : Nat, A < 2 ^ (16 * i) ∧ V = A + 2 ^ (16 * i) * ((X.getD i 0).toNat + 65536 * C) ∧ dval (X.take i) = (A : Int) ∧ dval (X.drop (i + 1)) = (C : Int) := by
  obtain ⟨A, hA, hA2⟩ := dval_dn (hX.take i)
  rw [List.length_take, Nat.min_eq_left (by omega)] at hA2
  obtain ⟨C, hC, _⟩ := dval_dn (hX.drop (i + 1))
  have hx := dig_get hX i
  have e := dval_append (X.take i) (X.drop i)
  rw [List.take_append_drop, List.length_take, Nat.min_eq_left (by omega), List.drop_eq_getElem_cons h, dval, hA, hC, hV, dpw_pow] at e
  have hg : X.getD i 0 = X[i] := by simp [h]
  rw [← hg] at e
  refine ⟨A, C, hA2, ?_, hA, hC⟩
  generalize X.getD i 0 = x at *
  obtain ⟨x', rfl⟩ := Int.eq_ofNat_of_zero_le hx.1
  unfold dwB at e
  have : ((2 ^ (16 * i) * (x' + 65536 * C) : Nat) : Int) = ((2 ^ (16 * i) : Nat) : Int) * ((x' : Int) + 65536 * (C : Int)) := by rw [Int.natCast_mul]; rfl
  rw [← this] at e
  simp only [Int.toNat_natCast]
  omega
theorem bitLen_half {v : Nat} (h : v ≠ 0) : bitLen v = bitLen (v / 2) + 1 := by
  by_cases h1 : v / 2 = 0
  · have : v = 1 := by omega
    subst this; rfl
  · rw [bitLen_shift v 1 (by simpa using h1), Nat.pow_one]; omega
theorem bitLen_digits {X : List Int} (hX : DCanon X) {N : Nat} (hN : X.length = N + 1) {V : Nat} (hV : dval X = (V : Int)) : bitLen V = 16 * N + bitLen (X.getD N 0).toNat := by
  obtain ⟨A, C, hA, hVe, _, hC⟩ := at_digit hX.1 (i := N) (by omega) hV
  rw [List.drop_of_length_le (by omega)] at hC
  have hC0 : C = 0 := by simp [dval] at hC; omega
  obtain ⟨h1, h2⟩ := dwid_top (show dwid X = N + 1 by rw [hX.2]; exact hN)
  have hx := dig_get hX.1 N
  have hg : X.getD N 0 = X[N] := by simp [h1]
  rw [hVe, hC0, Nat.mul_zero, Nat.add_zero, bitLen_top hA (by rw [hg] at hx ⊢; omega)]
theorem odd2_digit {i c d A R V : Nat} (hA : A = 0) (hV : V = A + 2 ^ (16 * i) * (d + 65536 * R)) (hc : c < 16) (ho : Odd2 d c) : Odd2 V (16 * i + c) := by
  obtain ⟨m, rfl⟩ := ho
  subst hA
  have e2 : 65536 = 2 ^ c * (2 * 2 ^ (16 - c - 1)) := by rw [← Nat.pow_succ', ← Nat.pow_add, show c + (16 - c - 1 + 1) = 16 by omega]
  refine ⟨m + 2 ^ (16 - c - 1) * R, ?_⟩
  rw [hV, Nat.zero_add, Nat.pow_add, e2, Nat.mul_assoc (2 ^ (16 * i))]
  congr 1
  rw [Nat.mul_assoc, ← Nat.mul_add]
  congr 1
  rw [Nat.mul_add, Nat.mul_assoc]
  omega
theorem isTwos_unique {v : Nat} {a b : Int} (h : IsTwos v a) (h' : IsTwos v b) : a = b := by
  rcases h with ⟨h1, h2⟩ | ⟨s, h1, h2⟩
  · rcases h' with ⟨_, h4⟩ | ⟨t, _, h4⟩
    · omega
    · exact absurd h1 (odd2_pos h4)
  · rcases h' with ⟨h3, _⟩ | ⟨t, h3, h4⟩
    · exact absurd h3 (odd2_pos h2)
    · have ha := odd2_bit h2
      have hb := odd2_bit h4
      rcases Nat.lt_trichotomy s t with q | q | q
      · rw [hb.2 s q] at ha; cases ha.1
      · omega
      · rw [ha.2 t q] at hb; cases hb.1
theorem bit_digit {p x C : Nat} (hp : p < 16) : (x + 65536 * C) / 2 ^ p % 2 = x / 2 ^ p % 2 := by
  have e2 : 65536 = 2 ^ p * (2 * 2 ^ (16 - p - 1)) := by rw [← Nat.pow_succ', ← Nat.pow_add, show p + (16 - p - 1 + 1) = 16 by omega]
  rw [e2, Nat.mul_assoc, Nat.add_mul_div_left _ _ (Nat.two_pow_pos p), Nat.mul_assoc, Nat.add_mul_mod_self_left]

set_option maxHeartbeats 1600000 in
theorem rbitLen_any {w : World} {v : Value} {xs : List Int} (h : Sl w.heap.size w v xs) (hlen : xs.length ≤ 1099511627776) :
    Calls Tryd.prog 54 #[v] w fun e w' => e = .returned (.int .i64 (bitLen (vn xs) : Int)) ∧ Below w.heap.size w w' := by
  have hvn := hid (val_vn h.1)
  generalize hS : bitLen (vn xs) = S
  have HS := hid hS
  clear hS
  go_enter Tryd.func54, Tryd.ntmps54
  go_wp2_with fail
  refine (split_any h (by omega)).mono ?_
  rintro e w1 ⟨X, rx, rfl, hs, hcx, hvx, hlx, hb⟩
  have HVX : Hid (dval X = (vn xs : Int)) := by unfold Hid; rw [hvx]; exact hvn.out
  have HB := hid hb
  clear hvx h hb
  obtain ⟨-, ax, capx, rfl, hlcx, hcmx, hmx⟩ := hs
  by_cases hx0 : X.length = 0
  · have hX : X = [] := List.eq_nil_of_length_eq_zero hx0
    have hz : ((X.length : Int) == 0) = true := by rw [beq_iff_eq]; omega
    have HE : Hid (S = 0) := by
      unfold Hid
      have q := HVX.out
      rw [hX] at q
      have : vn xs = 0 := by simp [dval] at q; omega
      rw [← HS.out, this]; rfl
    clear hX hmx hcx
    go_wp2
    go_ret
    exact ⟨by rw [HE.out]; rfl, HB.out⟩
  · obtain ⟨N, hN⟩ : ∃ N, X.length = N + 1 := ⟨X.length - 1, by omega⟩
    rcases hmx with e | ⟨b, off, rfl, hbg, hc⟩
    · subst e; simp at hN
    have hz : (((N + 1 : Nat) : Int) == 0) = false := by rw [beq_eq_false_iff_ne]; omega
    have HBL := hid (bitLen_digits hcx hN HVX.out)
    have hx := dig_get hcx.1 N
    have cx : w1.cell? ⟨b, off + N, none⟩ = some (.int .i64 (X.getD N 0)) := by rw [hc N (by omega)]; simp [show N < X.length by omega]
    rw [hN] at hlcx
    rw [hN]
    generalize X.getD N 0 = x at *
    obtain ⟨hx1, hx2⟩ := hx
    have hNb : N ≤ 4398046511104 := by omega
    clear hc hx0 hcx hN hlx
    go_wp2_with fail
    go_loop [4, 5] (fun k y => ∃ (c W : Nat), c ≤ 65536 ∧ k = .int .i64 ((16 * N + c : Nat) : Int) ∧ y = .int .i64 (W : Int) ∧ W + c ≤ 65536 ∧ Hid (S = 16 * N + c + bitLen W)) (fun _ y => (intOf y).toNat)
    case atStart => exact ⟨0, x.toNat, by omega, (by go_num), (by rw [Int.toNat_of_nonneg hx1]), by omega, (by unfold Hid; rw [← HS.out, HBL.out, Nat.add_zero])⟩
    case round =>
      obtain ⟨c, W, hcb, rfl, rfl, hW, HI⟩ := hrel
      by_cases hW0 : W = 0
      · subst hW0
        go_wp2
        go_ret
        refine ⟨congrArg Ending.returned (congrArg (Value.int IntKind.i64) ?_), HB.out⟩
        rw [HI.out]; simp [bitLen]
      · have HI2 : Hid (S = 16 * N + (c + 1) + bitLen (W / 2)) := by unfold Hid; rw [HI.out, bitLen_half hW0]; omega
        have hWp : (0 : Int) < (W : Int) := by omega
        clear HI
        go_wp2
        go_round
        case rel => exact ⟨c + 1, W / 2, by omega, by go_num, by go_num, by omega, HI2⟩
        case measure => simp [intOf]; omega

set_option maxHeartbeats 1600000 in
theorem rtwos_any {w : World} {v : Value} {xs : List Int} (h : Sl w.heap.size w v xs) (hlen : xs.length ≤ 1099511627776) :
    Calls Tryd.prog 55 #[v] w fun e w' => ∃ r, e = .returned (.int .i64 r) ∧ IsTwos (vn xs) r ∧ Below w.heap.size w w' := by
  have hvn := hid (val_vn h.1)
  generalize vn xs = S at *
  go_enter Tryd.func55, Tryd.ntmps55
  go_wp2_with fail
  refine (split_any h (by omega)).mono ?_
  rintro e w1 ⟨X, rx, rfl, hs, hcx, hvx, hlx, hb⟩
  have HVX : Hid (dval X = (S : Int)) := by unfold Hid; rw [hvx]; exact hvn.out
  have HB := hid hb
  clear hvx h hb
  obtain ⟨-, ax, capx, rfl, hlcx, hcmx, hmx⟩ := hs
  have HM := hid hmx
  have HD := hid hcx.1
  clear hmx hcx
  go_wp2_with fail
  go_loop [4] (fun i => ∃ k : Nat, k ≤ X.length ∧ i = .int .i64 k ∧ Hid (dval (X.take k) = 0)) (fun i => X.length - (intOf i).toNat)
  case atStart => exact ⟨0, Nat.zero_le _, rfl, rfl⟩
  case round =>
    obtain ⟨k, hk, rfl, HZ⟩ := hrel
    by_cases hkn : k < X.length
    · rcases HM.out with e | ⟨b, off, rfl, hbg, hc⟩
      · subst e; simp at hkn
      have cx : w1.cell? ⟨b, off + k, none⟩ = some (.int .i64 (X.getD k 0)) := by rw [hc k hkn]; simp [hkn]
      have hx := dig_get HD.out k
      have HT := hid (dtake_next X k)
      obtain ⟨A, C, _, hV, hA, _⟩ := at_digit HD.out hkn HVX.out
      have HA : Hid (A = 0) := by unfold Hid; rw [HZ.out] at hA; omega
      have HV := hid hV
      clear hc hV hA
      generalize X.getD k 0 = x at *
      obtain ⟨hx1, hx2⟩ := hx
      by_cases hx0 : x = 0
      · have ht : (x != 0) = false := by simp [hx0]
        have HT2 : Hid (dval (X.take (k + 1)) = 0) := by unfold Hid; rw [HT.out, HZ.out, hx0]; simp
        have HX0 := hid hx0
        clear hx0
        go_wp2
        go_round
        case rel => exact ⟨k + 1, by omega, by go_num, HT2⟩
        case measure => simp [intOf]; omega
      · have ht : (x != 0) = true := by simp [hx0]
        obtain ⟨W0, rfl⟩ := Int.eq_ofNat_of_zero_le hx1
        have hW0 : W0 ≠ 0 := by omega
        go_wp2_with fail
        go_loop [5, 6] (fun j y => ∃ (c W : Nat), c ≤ 65536 ∧ W ≠ 0 ∧ W ≤ 65535 ∧ j = .int .i64 ((16 * k + c : Nat) : Int) ∧ y = .int .i64 (W : Int) ∧ Hid (W0 = 2 ^ c * W)) (fun _ y => (intOf y).toNat)
        case atStart => exact ⟨0, W0, by omega, hW0, by omega, (by go_num), rfl, (by unfold Hid; simp)⟩
        case round =>
          obtain ⟨c, W, hcb, hWn, hWb, rfl, rfl, HW⟩ := hrel
          have hc16 : c < 16 := by
            by_cases q : c < 16
            · exact q
            · exfalso
              have h1 := HW.out
              have h2 : 2 ^ 16 ≤ 2 ^ c := Nat.pow_le_pow_right (by omega) (by omega)
              have h3 : 2 ^ c * 1 ≤ 2 ^ c * W := Nat.mul_le_mul_left _ (by omega)
              omega
          by_cases hev : W % 2 = 0
          · have hte : (((W : Int) % 2) == 0) = true := by rw [beq_iff_eq]; omega
            have hte2 : ((W : Int).tmod 2 == 0) = true := by rw [Int.tmod_eq_emod_of_nonneg (by omega)]; exact hte
            have HW2 : Hid (W0 = 2 ^ (c + 1) * (W / 2)) := by
              unfold Hid; rw [HW.out, Nat.pow_succ, Nat.mul_assoc, show 2 * (W / 2) = W by omega]
            clear HW
            go_wp2
            go_round
            case rel => exact ⟨c + 1, W / 2, by omega, by omega, by omega, by go_num, by go_num, HW2⟩
            case measure => simp [intOf]; omega
          · have hte : (((W : Int) % 2) == 0) = false := by rw [beq_eq_false_iff_ne]; omega
            have hte2 : ((W : Int).tmod 2 == 0) = false := by rw [Int.tmod_eq_emod_of_nonneg (by omega)]; exact hte
            have HO : Hid (Odd2 S (16 * k + c)) := odd2_digit HA.out HV.out hc16 ⟨W / 2, by rw [Int.toNat_natCast, HW.out, show 2 * (W / 2) + 1 = W by omega]⟩
            go_wp2
            go_ret
            exact ⟨_, rfl, .inr ⟨16 * k + c, rfl, HO.out⟩, HB.out⟩
    · have HE : Hid (S = 0) := by
        unfold Hid
        have q := HZ.out
        rw [List.take_of_length_le (by omega), HVX.out] at q
        omega
      go_wp2
      go_ret
      exact ⟨-1, rfl, .inl ⟨HE.out, rfl⟩, HB.out⟩

set_option maxRecDepth 100000 in
set_option maxHeartbeats 1600000 in
theorem rbit_any {w : World} {v : Value} {xs : List Int} (h : Sl w.heap.size w v xs) (hlen : xs.length ≤ 1099511627776) {i : Int} (hi0 : -9223372036854775808 ≤ i) (hi1 : i ≤ 9223372036854775807) :
    Calls Tryd.prog 56 #[v, .int .i64 i] w fun e w' => e = .returned (.int .i64 (bitAt (vn xs) i)) ∧ Below w.heap.size w w' := by
  by_cases hn : i < 0
  · have HV : Hid (bitAt (vn xs) i = 0) := by unfold Hid bitAt; rw [if_pos hn]
    generalize bitAt (vn xs) i = V at *
    clear h
    go_enter Tryd.func56, Tryd.ntmps56
    go_wp2
    go_ret
    exact ⟨by rw [HV.out]; rfl, Below.refl _ _⟩
  · obtain ⟨n, rfl⟩ := Int.eq_ofNat_of_zero_le (show 0 ≤ i by omega)
    have hv : bitAt (vn xs) (n : Int) = ((vn xs / 2 ^ n % 2 : Nat) : Int) := by unfold bitAt; rw [if_neg hn]; simp
    have HV := hid hv
    have hvn := hid (val_vn h.1)
    generalize bitAt (vn xs) (n : Int) = V at *
    clear hv
    go_enter Tryd.func56, Tryd.ntmps56
    go_wp2_with fail
    refine (split_any h (by omega)).mono ?_
    rintro e w1 ⟨X, rx, rfl, hs, hcx, hvx, hlx, hb⟩
    have HVX : Hid (dval X = (vn xs : Int)) := by unfold Hid; rw [hvx]; exact hvn.out
    have HB := hid hb
    clear hvx h hb
    obtain ⟨-, ax, capx, rfl, hlcx, hcmx, hmx⟩ := hs
    have HD := hid hcx.1
    clear hcx
    by_cases hx0 : X.length ≤ n / 16
    · have hz : (X.length : Int) ≤ (n : Int) / 16 := by omega
      have HE : Hid (V = 0) := by
        unfold Hid
        obtain ⟨U, hU, hU2⟩ := dval_dn HD.out
        rw [HVX.out] at hU
        have : vn xs = U := by omega
        rw [HV.out, this, div_zero_of hU2 hx0]; rfl
      clear hmx
      go_wp2
      go_ret
      exact ⟨by rw [HE.out]; rfl, HB.out⟩
    · have hz : ¬ (X.length : Int) ≤ (n : Int) / 16 := by omega
      rcases hmx with e | ⟨b, off, rfl, hbg, hc⟩
      · subst e; simp at hx0
      have cx : w1.cell? ⟨b, off + n / 16, none⟩ = some (.int .i64 (X.getD (n / 16) 0)) := by rw [hc (n / 16) (by omega)]; simp [show n / 16 < X.length by omega]
      obtain ⟨P, hP⟩ : ∃ P : Nat, P = 2 ^ (n % 16) := ⟨_, rfl⟩
      have hPb := pow16_le (show n % 16 < 16 from Nat.mod_lt _ (by omega))
      have HPW := hid (power_at (i := (n : Int) % 16) (n % 16) (by omega) (by omega))
      rw [← hP] at hPb HPW
      obtain ⟨A, C, hA, hVe, _, _⟩ := at_digit HD.out (i := n / 16) (by omega) HVX.out
      have hx := dig_get HD.out (n / 16)
      have HE : Hid (V = (((X.getD (n / 16) 0).toNat / P % 2 : Nat) : Int)) := by
        unfold Hid
        rw [HV.out, ← div_two (V := vn xs) (n := n), hVe, Nat.add_mul_div_left _ _ (Nat.two_pow_pos _), Nat.div_eq_of_lt hA, Nat.zero_add, bit_digit (Nat.mod_lt _ (by omega)), hP]
      generalize X.getD (n / 16) 0 = x at *
      obtain ⟨hx1, hx2⟩ := hx
      obtain ⟨x', rfl⟩ := Int.eq_ofNat_of_zero_le hx1
      obtain ⟨hP1, hP2⟩ := hPb
      have t1 : (n : Int).tdiv 16 = (n : Int) / 16 := Int.tdiv_eq_ediv_of_nonneg (by omega)
      have t2 : (n : Int).tmod 16 = (n : Int) % 16 := Int.tmod_eq_emod_of_nonneg (by omega)
      have t4 : IntKind.i64.wrap ((n : Int) / 16) = (n : Int) / 16 := wrap_is (by omega) (by omega)
      have t5 : IntKind.i64.wrap ((n : Int) % 16) = (n : Int) % 16 := wrap_is (by omega) (by omega)
      have t7 : ((n : Int) / 16).toNat = n / 16 := by omega
      have hPz : ((P : Int) == 0) = false := by rw [beq_eq_false_iff_ne]; omega
      have HQ : Hid ((x' : Int) / (P : Int) = ((x' / P : Nat) : Int)) := by unfold Hid; simp
      have hqi : 0 ≤ (x' : Int) / (P : Int) ∧ (x' : Int) / (P : Int) ≤ 65535 := ⟨Int.ediv_nonneg hx1 (by omega), Int.le_trans (Int.ediv_le_self _ hx1) hx2⟩
      obtain ⟨hqi0, hqi1⟩ := hqi
      have i2 : (n : Int) / 16 < (X.length : Int) := by omega
      have i3 : (0 : Int) ≤ (n : Int) / 16 := by omega
      clear hc hx0 hP hA hVe
      go_wp2_with fail
      go_quiet ((go_at_call 49; exact Calls.quiet_of_same (HPW.out _)))
      go_wp2
      go_ret
      refine ⟨congrArg Ending.returned (congrArg (Value.int IntKind.i64) ?_), below_drewN HB.out _⟩
      rw [HE.out, Int.toNat_natCast]
      show (x' : Int) / (P : Int) % 2 = _
      rw [HQ.out]
      generalize x' / P = q
      omega
end Go.Proofs.YtagfekcocdjhlaaDoor
