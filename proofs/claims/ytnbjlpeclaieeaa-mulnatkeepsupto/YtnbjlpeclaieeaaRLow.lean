/-
  RLow: the reference's Low.
-/
import Derived.Test.YtnbjlpeclaieeaaRPureToRPow
namespace Go.Proofs.Ytnbjlpeclaieeaa
open Go.RowKit

theorem rlow_neg (v : Value) (w : World) {i : Int} (hi : i < 0) :
    Calls Try.prog 39 #[v, .int .i64 i] w fun e w' => e = .returned (.tuple #[.slice none 0 0, .int .i64 3]) ∧ w' = w := by
  go_enter Try.func39, Try.ntmps39
  go_wp2
  go_ret2
  exact ⟨rfl, rfl⟩
theorem low_digits {X : List Int} (hX : DF X) {n P : Nat} (hP : P = 2 ^ (n % 16)) (h : n / 16 < X.length) {V : Nat} (hV : dval X = (V : Int)) : dval (X.take (n / 16)) + X.getD (n / 16) 0 % (P : Int) * dpw (n / 16) = ((V % 2 ^ n : Nat) : Int) := by
  obtain ⟨A, hA, hA2⟩ := dval_dn (hX.take (n / 16))
  rw [List.length_take, Nat.min_eq_left (by omega)] at hA2
  obtain ⟨C, hC, _⟩ := dval_dn (hX.drop (n / 16 + 1))
  have hx := dig_get hX (n / 16)
  have e := dval_append (X.take (n / 16)) (X.drop (n / 16))
  rw [List.take_append_drop, List.length_take, Nat.min_eq_left (by omega), List.drop_eq_getElem_cons h, dval, hA, hC, hV, dpw_pow] at e
  rw [hA, dpw_pow]
  have hg : X.getD (n / 16) 0 = X[n / 16] := by simp [h]
  rw [← hg] at e
  generalize X.getD (n / 16) 0 = x at *
  obtain ⟨x', rfl⟩ := Int.eq_ofNat_of_zero_le hx.1
  have e2 : V = A + 2 ^ (16 * (n / 16)) * (x' + 65536 * C) := by
    unfold dwB at e
    have : ((2 ^ (16 * (n / 16)) * (x' + 65536 * C) : Nat) : Int) = ((2 ^ (16 * (n / 16)) : Nat) : Int) * ((x' : Int) + 65536 * (C : Int)) := by rw [Int.natCast_mul]; rfl
    rw [← this] at e
    omega
  have hsp : 2 ^ n = 2 ^ (16 * (n / 16)) * 2 ^ (n % 16) := by rw [← Nat.pow_add, show 16 * (n / 16) + n % 16 = n by omega]
  have h16 : 65536 = 2 ^ (n % 16) * 2 ^ (16 - n % 16) := by rw [← Nat.pow_add, show n % 16 + (16 - n % 16) = 16 by omega]
  have hq : (x' : Int) % (P : Int) = ((x' % P : Nat) : Int) := by simp
  rw [hq, ← Int.natCast_mul, e2, hsp, ← hP]
  rw [← hP] at h16
  have hpp := Nat.two_pow_pos (16 * (n / 16))
  generalize 2 ^ (16 * (n / 16)) = Q at *
  rw [Nat.mod_mul, Nat.add_mul_mod_self_left, Nat.mod_eq_of_lt hA2, Nat.add_mul_div_left _ _ hpp, Nat.div_eq_of_lt hA2, Nat.zero_add]
  have h17 : (x' + 65536 * C) % P = x' % P := by rw [h16, Nat.mul_assoc, Nat.add_mul_mod_self_left]
  rw [h17, Nat.mul_comm]
  omega

set_option maxHeartbeats 3200000 in
theorem rlow_any {w : World} {v : Value} {xs : List Int} (h : Sl w.heap.size w v xs) {n : Nat} (hn : n ≤ 9223372036854775807) (hlen : xs.length ≤ 1099511627776) :
    Calls Try.prog 39 #[v, .int .i64 (n : Int)] w (Told2 w ((vn xs % 2 ^ n : Nat) : Int)) := by
  have hvn := val_vn h.1
  generalize hS : ((vn xs % 2 ^ n : Nat) : Int) = S
  have HS := hid hS
  have HVN := hid hvn
  clear hS hvn
  go_enter Try.func39, Try.ntmps39
  go_wp2_with fail
  refine (split_any h (by omega)).mono ?_
  rintro e w1 ⟨X, rx, rfl, hs, hcx, hvx, hlx, hb⟩
  have HVX := hid hvx
  have HB := hid hb
  have HSL := hid hs
  clear hvx h hb
  obtain ⟨-, ax, capx, rfl, hlcx, hcmx, hmx⟩ := hs
  have HM := hid hmx
  have HC := hid hcx
  clear hmx hcx
  by_cases hx0 : X.length ≤ n / 16
  · have hz : (X.length : Int) ≤ (n : Int) / 16 := by omega
    have HE : Hid (dval X = S) := by
      unfold Hid
      obtain ⟨V, hV, hV2⟩ := dval_dn HC.out.1
      have hV' := hV
      rw [HVX.out, HVN.out] at hV
      have : vn xs = V := by omega
      rw [← HS.out, this, hV', Nat.mod_eq_of_lt (Nat.lt_of_lt_of_le hV2 (Nat.pow_le_pow_right (by omega) (by omega)))]
    have HJ := hid (join_any HSL.out HC.out.1)
    go_wp2_with fail
    refine HJ.out.mono ?_
    rintro e w7 ⟨qs, q, rfl, ho, hcz, hvz, hb5⟩
    have HVZ := hid hvz
    clear hvz
    go_wp2
    go_ret2
    exact ⟨qs, q, rfl, ho.from HB.out.size, hcz, by rw [HVZ.out, HE.out], below_step HB.out hb5⟩
  · have hz : ¬ (X.length : Int) ≤ (n : Int) / 16 := by omega
    obtain ⟨P, hP⟩ : ∃ P : Nat, P = 2 ^ (n % 16) := ⟨_, rfl⟩
    have hPb := pow16_le (show n % 16 < 16 from Nat.mod_lt _ (by omega))
    have HPW := hid (power_at (i := (n : Int) % 16) (n % 16) (by omega) (by omega))
    rw [← hP] at hPb HPW
    have HE : Hid (dval (X.take (n / 16)) + X.getD (n / 16) 0 % (P : Int) * dpw (n / 16) = S) := by
      unfold Hid
      obtain ⟨V, hV, hV2⟩ := dval_dn HC.out.1
      rw [low_digits HC.out.1 hP (by omega) hV]
      rw [HVX.out, HVN.out] at hV
      have : vn xs = V := by omega
      rw [← HS.out, this]
    clear hP
    obtain ⟨hP1, hP2⟩ := hPb
    have HZ := hid (zeros_d (n / 16 + 1))
    rcases HM.out with e | ⟨b, off, rfl, hbg, hc⟩
    · subst e; simp at hx0
    have HCL : Hid (∀ j, j < X.length → w1.cell? ⟨b, off + j, none⟩ = some (.int .i64 (X.getD j 0))) := fun j hj => by
      rw [hc j hj]; simp [hj]
    clear hc
    go_wp2_with (at_make; refine wpList_make_ints _ rfl _ _ rfl _ _ (n / 16 + 1) (n / 16 + 1) rfl rfl (by omega) (by omega) (Nat.le_refl _) (by omega) ?_)
    intro w4 hrow hb4 hsz4
    have hhs : w1.heap.size < w4.heap.size := by have := hsz4.out; omega
    have HV0 : Hid (dval (List.replicate (n / 16 + 1) 0) = dval (X.take 0)) := by unfold Hid; rw [HZ.out.2]; rfl
    clear hsz4
    go_wp2_with fail
    go_loopw [8] (fun i wr => ∃ (k : Nat) (zs : List Int), k ≤ n / 16 ∧ i = .int .i64 k ∧ Hid (zs.length = n / 16 + 1) ∧ Hid (DF zs) ∧ Hid (∀ j (h : j < zs.length), k ≤ j → zs[j] = 0) ∧ Hid (dval zs = dval (X.take k)) ∧ RowI wr w1.heap.size (wi zs) ∧ Below w1.heap.size w1 wr ∧ w1.heap.size < wr.heap.size) (fun i _ => n / 16 - (intOf i).toNat)
    case atStart => exact ⟨0, _, Nat.zero_le _, rfl, (by unfold Hid; simp), HZ.out.1, (fun j h _ => by simp), HV0, hrow, hb4, hhs⟩
    case round =>
      clear HV0 hrow hb4 hhs HZ
      obtain ⟨k, zs, hk, rfl, HL, HD, HZ, HV, hr, hb, hhs⟩ := hrel
      have hk1 : k < zs.length := by have := HL.out; omega
      have hz0 : zs[k] = 0 := HZ.out k hk1 (Nat.le_refl _)
      have hx := dig_get HC.out.1 k
      have HT := hid (dtake_next X k)
      have cx : wr.cell? ⟨b, off + k, none⟩ = some (.int .i64 (X.getD k 0)) := (hb.cell (p := ⟨b, off + k, none⟩) hbg).trans (HCL.out k (by omega))
      have cf : wr.frozen? ⟨w1.heap.size, k, none⟩ = false := hr.frozen _
      have c1 : wr.cell? ⟨w1.heap.size, k, none⟩ = some (.int .i64 zs[k]) := RowI.num (r := []) (by simpa using hr) hk1
      have i0 : (0 : Int) ≤ (k : Int) := by omega
      by_cases hkn : k < n / 16
      · generalize X.getD k 0 = x at *
        obtain ⟨hx1, hx2⟩ := hx
        have HR := RowI.setNum (r := []) (by simpa using hr) hk1 x
        have HB2 := hb.setCell (p := ⟨w1.heap.size, k, none⟩) (Nat.le_refl _) (.int .i64 x)
        have HD' : Hid (DF (zs.set k x)) := HD.out.set k (by unfold IsD dwB; omega)
        have HV' : Hid (dval (zs.set k x) = dval (X.take (k + 1))) := by unfold Hid; rw [dval_set zs k x hk1, hz0, HV.out, HT.out, Int.sub_zero]
        have HZ' : Hid (∀ j (h : j < (zs.set k x).length), k + 1 ≤ j → (zs.set k x)[j] = 0) := fun j h hj => by
          rw [List.getElem_set_ne (by omega)]; exact HZ.out j (by simpa using h) (by omega)
        have HL' : Hid ((zs.set k x).length = n / 16 + 1) := by unfold Hid; rw [List.length_set]; exact HL.out
        have hhs2 : w1.heap.size < (wr.setCell ⟨w1.heap.size, k, none⟩ (.int .i64 x)).heap.size := by simpa using hhs
        clear hr hb HL HD HZ HV hhs HT
        generalize zs[k] = z at *
        go_wp2
        go_roundw
        case rel => exact ⟨k + 1, _, by omega, by go_num, HL', HD', HZ', HV', (by simpa using HR), HB2, hhs2⟩
        case measure => simp [intOf]; omega
      · obtain rfl : k = n / 16 := by omega
        generalize X.getD (n / 16) 0 = x at *
        obtain ⟨hx1, hx2⟩ := hx
        have hm0 : 0 ≤ x % (P : Int) := Int.emod_nonneg _ (by omega)
        have hm1 : x % (P : Int) < (P : Int) := Int.emod_lt_of_pos _ (by omega)
        have HR := RowI.setNum (r := []) (by simpa using hr) hk1 (x % (P : Int))
        have HB2 := hid (hb.setCell (p := ⟨w1.heap.size, n / 16, none⟩) (Nat.le_refl _) (.int .i64 (x % (P : Int))))
        have HD' : Hid (DF (zs.set (n / 16) (x % (P : Int)))) := HD.out.set _ (by unfold IsD dwB; omega)
        have HV' : Hid (dval (zs.set (n / 16) (x % (P : Int))) = S) := by unfold Hid; rw [dval_set zs _ _ hk1, hz0, HV.out, Int.sub_zero, HE.out]
        have HL' : Hid ((zs.set (n / 16) (x % (P : Int))).length = n / 16 + 1) := by unfold Hid; rw [List.length_set]; exact HL.out
        have hhs2 : w1.heap.size < (wr.setCell ⟨w1.heap.size, n / 16, none⟩ (.int .i64 (x % (P : Int)))).heap.size := by simpa using hhs
        have HRR : Hid (RowI (wr.setCell ⟨w1.heap.size, n / 16, none⟩ (.int .i64 (x % (P : Int)))) w1.heap.size (wi (zs.set (n / 16) (x % (P : Int))))) := by unfold Hid; simpa using HR
        have hPz : ((P : Int) == 0) = false := by rw [beq_eq_false_iff_ne]; omega
        have i1 : (n : Int) / 16 < (n : Int) / 16 + 1 := by omega
        have i2 : (n : Int) / 16 < (X.length : Int) := by omega
        have i3 : (0 : Int) ≤ (n : Int) / 16 := by omega
        clear hr hb HL HD HZ HV hhs HT HR
        generalize zs.set (n / 16) (x % (P : Int)) = Z at *
        generalize zs[n / 16] = z at *
        go_wp2_with fail
        have t1 : (n : Int).tdiv 16 = (n : Int) / 16 := Int.tdiv_eq_ediv_of_nonneg (by omega)
        have t2 : (n : Int).tmod 16 = (n : Int) % 16 := Int.tmod_eq_emod_of_nonneg (by omega)
        have t3 : x.tmod (P : Int) = x % (P : Int) := Int.tmod_eq_emod_of_nonneg hx1
        have t4 : IntKind.i64.wrap ((n : Int) / 16) = (n : Int) / 16 := wrap_is (by omega) (by omega)
        have t5 : IntKind.i64.wrap ((n : Int) % 16) = (n : Int) % 16 := wrap_is (by omega) (by omega)
        have t6 : IntKind.i64.wrap (x % (P : Int)) = x % (P : Int) := wrap_is (by omega) (by omega)
        have t7 : ((n : Int) / 16).toNat = n / 16 := by omega
        have i4 : n / 16 < X.length := by omega
        go_region_with ((go_at_call 54; refine (HPW.out _).mono ?_; rintro e w5 ⟨rfl, rfl⟩))
        all_goals
          clear t1 t2 t3 t4 t5 t6 t7
          have hR : RowI (wr.setCell ⟨w1.heap.size, n / 16, none⟩ (.int .i64 (x % (P : Int)))).drew w1.heap.size (wi Z) := RowI.drewN HRR.out 1
          have hhs3 : w1.heap.size < (wr.setCell ⟨w1.heap.size, n / 16, none⟩ (.int .i64 (x % (P : Int)))).drew.heap.size := hhs2
          have HBB := hid (below_step HB.out HB2.out.drew)
          have hsz := RowI.sl (r := []) (by simpa using hR) (ints_of_df HD'.out) (cap := n / 16 + 1) (by rw [HL'.out]; exact Nat.le_refl _) (by omega) hhs3
          rw [HL'.out] at hsz
          have HJ := hid (join_any hsz HD'.out)
          clear hsz hR
          go_wp2_with fail
          refine HJ.out.mono ?_
          rintro e w7 ⟨qs, q, rfl, ho, hcz, hvz, hb5⟩
          have HVZ := hid hvz
          clear hvz
          go_wp2
          go_ret2
          exact ⟨qs, q, rfl, ho.from HBB.out.size, hcz, by rw [HVZ.out, HV'.out], below_step HBB.out hb5⟩
end Go.Proofs.Ytnbjlpeclaieeaa
