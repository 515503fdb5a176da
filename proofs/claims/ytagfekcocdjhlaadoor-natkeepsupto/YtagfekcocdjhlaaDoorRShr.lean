/-
  RShr: the reference's Shr.
-/
import Derived.Test.YtagfekcocdjhlaaDoorRShl
namespace Go.Proofs.YtagfekcocdjhlaaDoor
open Go.RowKit

theorem rshr_neg (v : Value) (w : World) {i : Int} (hi : i < 0) :
    Calls Tryd.prog 23 #[v, .int .i64 i] w fun e w' => e = .returned (.tuple #[.slice none 0 0, .int .i64 3]) ∧ w' = w := by
  go_enter Tryd.func23, Tryd.ntmps23
  go_wp2
  go_ret2
  exact ⟨rfl, rfl⟩
theorem dval_dn {X : List Int} (hX : DF X) : ∃ V : Nat, dval X = (V : Int) ∧ V < 2 ^ (16 * X.length) := by
  have h0 := dval_nonneg hX
  have h1 := dval_lt_pw hX
  rw [dpw_pow] at h1
  obtain ⟨V, hV⟩ := Int.eq_ofNat_of_zero_le h0
  exact ⟨V, hV, by rw [hV] at h1; omega⟩
theorem ddrop_div {X : List Int} (hX : DF X) {M : Nat} (hM : M ≤ X.length) {V : Nat} (hV : dval X = (V : Int)) : dval (X.drop M) = ((V / 2 ^ (16 * M) : Nat) : Int) := by
  have e := dval_append (X.take M) (X.drop M)
  rw [List.take_append_drop, List.length_take, Nat.min_eq_left hM, dpw_pow] at e
  obtain ⟨A, hA, hA2⟩ := dval_dn (hX.take M)
  rw [List.length_take, Nat.min_eq_left hM] at hA2
  obtain ⟨C, hC, _⟩ := dval_dn (hX.drop M)
  rw [hA, hC, hV] at e
  rw [hC]
  have e2 : V = A + 2 ^ (16 * M) * C := by rw [← Int.natCast_mul] at e; omega
  rw [e2, Nat.add_mul_div_left _ _ (Nat.two_pow_pos _), Nat.div_eq_of_lt hA2]; simp
theorem div_zero_of {V n l : Nat} (h : V < 2 ^ (16 * l)) (hl : l ≤ n / 16) : V / 2 ^ n = 0 :=
  Nat.div_eq_of_lt (Nat.lt_of_lt_of_le h (Nat.pow_le_pow_right (by omega) (by omega)))
theorem div_two {V n : Nat} : V / 2 ^ (16 * (n / 16)) / 2 ^ (n % 16) = V / 2 ^ n := by
  rw [Nat.div_div_eq_div_mul, ← Nat.pow_add, show 16 * (n / 16) + n % 16 = n by omega]

/-- What stands behind the rounds from the top down to k. -/
def ShrTo (E zs : List Int) (P : Nat) (k : Nat) (rest : Int) : Prop := DF zs ∧ zs.length = E.length ∧ dval (E.drop k) = (P : Int) * dval (zs.drop k) + rest
theorem ShrTo.step {E zs : List Int} {P j : Nat} {rest x : Int} (h : ShrTo E zs P (j + 1) rest) (hP : 1 ≤ P) (hj : j < E.length) (hx : x = E[j]) (hx0 : 0 ≤ x) (hx1 : x ≤ 65535) (hr0 : 0 ≤ rest) (hr1 : rest < (P : Int)) :
    ShrTo E (zs.set j ((rest * 65536 + x) / (P : Int))) P j ((rest * 65536 + x) % (P : Int)) ∧ 0 ≤ (rest * 65536 + x) / (P : Int) ∧ (rest * 65536 + x) / (P : Int) ≤ 65535 := by
  obtain ⟨h1, h2, h3⟩ := h
  have q0 : 0 ≤ (rest * 65536 + x) / (P : Int) := Int.ediv_nonneg (by omega) (by omega)
  have q1 : (rest * 65536 + x) / (P : Int) < 65536 := Int.ediv_lt_of_lt_mul (by omega) (by omega)
  refine ⟨⟨h1.set j (by unfold IsD dwB; omega), by rw [List.length_set]; exact h2, ?_⟩, q0, by omega⟩
  have hj' : j < zs.length := by omega
  have hdm := Int.mul_ediv_add_emod (rest * 65536 + x) (P : Int)
  have e1 : (zs.set j ((rest * 65536 + x) / (P : Int))).drop j = (rest * 65536 + x) / (P : Int) :: zs.drop (j + 1) := by
    rw [List.drop_eq_getElem_cons (by simpa using hj'), List.drop_set, if_pos (by omega)]
    simp
  rw [e1, List.drop_eq_getElem_cons hj, dval, dval, h3, ← hx]
  generalize (rest * 65536 + x) / (P : Int) = Q at *
  generalize (rest * 65536 + x) % (P : Int) = R at *
  generalize dval (zs.drop (j + 1)) = Z at *
  unfold dwB
  rw [Int.mul_add, Int.mul_add, Int.mul_left_comm (P : Int) 65536 Z]
  omega

set_option maxHeartbeats 3200000 in
theorem rshr_any {w : World} {v : Value} {xs : List Int} (h : Sl w.heap.size w v xs) {n : Nat} (hn : n ≤ 9223372036854775807) (hlen : xs.length ≤ 1099511627776) :
    Calls Tryd.prog 23 #[v, .int .i64 (n : Int)] w (Told2 w ((vn xs / 2 ^ n : Nat) : Int)) := by
  have hvn := val_vn h.1
  generalize hS : ((vn xs / 2 ^ n : Nat) : Int) = S
  have HS := hid hS
  have HVN := hid hvn
  clear hS hvn
  go_enter Tryd.func23, Tryd.ntmps23
  go_wp2_with fail
  refine (split_any h (by omega)).mono ?_
  rintro e w1 ⟨X, rx, rfl, hs, hcx, hvx, hlx, hb⟩
  have HVX := hid hvx
  have HB := hid hb
  clear hvx h hb
  obtain ⟨-, ax, capx, rfl, hlcx, hcmx, hmx⟩ := hs
  have HM := hid hmx
  have HC := hid hcx
  clear hmx hcx
  by_cases hx0 : X.length ≤ n / 16
  · have hz : (X.length : Int) ≤ (n : Int) / 16 := by omega
    have HE : Hid (S = 0) := by
      unfold Hid
      obtain ⟨V, hV, hV2⟩ := dval_dn HC.out.1
      rw [HVX.out, HVN.out] at hV
      have : vn xs = V := by omega
      rw [← HS.out, this, div_zero_of hV2 hx0]; rfl
    go_wp2
    go_ret2
    exact ⟨[], _, rfl, ⟨WF.nil, .inl ⟨rfl, rfl⟩⟩, ⟨WF.nil, rfl⟩, by rw [HE.out]; rfl, HB.out⟩
  · have hz : ¬ (X.length : Int) ≤ (n : Int) / 16 := by omega
    obtain ⟨P, hP⟩ : ∃ P : Nat, P = 2 ^ (n % 16) := ⟨_, rfl⟩
    have hPb := pow16_le (show n % 16 < 16 from Nat.mod_lt _ (by omega))
    have HPW := hid (power_at (i := (n : Int) % 16) (n % 16) (by omega) (by omega))
    rw [← hP] at hPb HPW
    have HP := hid hP
    clear hP
    obtain ⟨hP1, hP2⟩ := hPb
    obtain ⟨N, hN⟩ : ∃ N, X.length = n / 16 + N + 1 := ⟨X.length - n / 16 - 1, by omega⟩
    have HN := hid hN
    rcases HM.out with e | ⟨b, off, rfl, hbg, hc⟩
    · subst e; simp at hN
    have HCL : Hid (∀ j, j < (X.drop (n / 16)).length → w1.cell? ⟨b, off + n / 16 + j, none⟩ = some (.int .i64 ((X.drop (n / 16)).getD j 0))) := fun j hj => by
      rw [List.length_drop] at hj
      rw [Nat.add_assoc, hc (n / 16 + j) (by omega)]
      simp [show n / 16 + j < X.length by omega]
    have HLE : Hid ((X.drop (n / 16)).length = N + 1) := by unfold Hid; rw [List.length_drop]; omega
    have HDE := hid (HC.out.1.drop (n / 16))
    have HVE : Hid (∃ V : Nat, dval (X.drop (n / 16)) = (V : Int) ∧ S = ((V / P : Nat) : Int)) := by
      obtain ⟨V, hV, _⟩ := dval_dn HC.out.1
      refine ⟨_, ddrop_div HC.out.1 (by omega) hV, ?_⟩
      rw [HVX.out, HVN.out] at hV
      have : vn xs = V := by omega
      rw [← HS.out, HP.out, div_two, this]
    generalize X.drop (n / 16) = E at *
    have HZ := hid (zeros_d (N + 1))
    clear hc
    have hle : n / 16 + N + 1 - n / 16 = N + 1 := by omega
    go_wp2_with fail
    refine (HPW.out _).mono ?_
    rintro e w5 ⟨rfl, rfl⟩
    clear HPW
    go_wp2_with (at_make; refine wpList_make_ints _ rfl _ _ rfl _ _ (N + 1) (N + 1) rfl rfl (by omega) (by omega) (Nat.le_refl _) (by omega) ?_)
    intro w4 hrow hb4 hsz4
    have hhs : w5.heap.size < w4.heap.size := by have := hsz4.out; omega
    have HT0 : Hid (ShrTo E (List.replicate (N + 1) 0) P (N + 1) 0) := ⟨HZ.out.1, by rw [HLE.out]; simp, by rw [List.drop_of_length_le (by rw [HLE.out]; exact Nat.le_refl _), List.drop_of_length_le (by simp)]; simp [dval]⟩
    clear hsz4
    go_wp2_with fail
    go_loopw [9, 10] (fun c i wr => ∃ (k : Nat) (zs : List Int) (cc : Int), k ≤ N + 1 ∧ i = .int .i64 ((k : Int) - 1) ∧ c = .int .i64 cc ∧ 0 ≤ cc ∧ cc < (P : Int) ∧ Hid (ShrTo E zs P k cc) ∧ RowI wr w5.heap.size (wi zs) ∧ Below w5.heap.size w5 wr ∧ w5.heap.size < wr.heap.size) (fun _ i _ => (intOf i + 1).toNat)
    case atStart => exact ⟨N + 1, _, 0, Nat.le_refl _, (by go_num), rfl, by omega, by omega, HT0, hrow, hb4, hhs⟩
    case round =>
      clear HT0 hrow hb4 hhs HZ
      obtain ⟨k, zs, cc, hk, rfl, rfl, hc0, hc1, HT, hr, hb, hhs⟩ := hrel
      by_cases hk0 : k = 0
      · subst hk0
        have HV7 : Hid (dval zs = S) := by
          unfold Hid
          obtain ⟨V, hV, hV2⟩ := HVE.out
          obtain ⟨h1, h2, h3⟩ := HT.out
          rw [List.drop_zero, List.drop_zero, hV] at h3
          obtain ⟨Z, hZ, _⟩ := dval_dn h1
          rw [hZ] at h3 ⊢
          rw [hV2]
          obtain ⟨c, rfl⟩ := Int.eq_ofNat_of_zero_le hc0
          have e : V = P * Z + c := by rw [← Int.natCast_mul] at h3; omega
          rw [e, Nat.mul_add_div (by omega), Nat.div_eq_of_lt (by omega), Nat.add_zero]
        have HD7 := hid HT.out.1
        have HL7 : Hid (zs.length = N + 1) := HT.out.2.1.trans HLE.out
        have hsz := RowI.sl (r := []) (by simpa using hr) (ints_of_df HD7.out) (cap := N + 1) (by rw [HL7.out]; exact Nat.le_refl _) (by omega) hhs
        rw [HL7.out] at hsz
        have HJ := hid (join_any hsz HD7.out)
        have HBB := hid (below_step HB.out hb)
        clear hsz hr hb HT
        go_wp2_with fail
        refine HJ.out.mono ?_
        rintro e w7 ⟨qs, q, rfl, ho, hcz, hvz, hb5⟩
        have HVZ := hid hvz
        clear hvz
        go_wp2
        go_ret2
        exact ⟨qs, q, rfl, ho.from HBB.out.size, hcz, by rw [HVZ.out, HV7.out], below_step HBB.out hb5⟩
      · obtain ⟨j, rfl⟩ : ∃ j, k = j + 1 := ⟨k - 1, by omega⟩
        have hjE : j < E.length := by have := HLE.out; omega
        have hjz : j < zs.length := by have := HT.out.2.1; omega
        have hx := dig_get HDE.out j
        have cx : wr.cell? ⟨b, off + n / 16 + j, none⟩ = some (.int .i64 (E.getD j 0)) := (hb.cell (p := ⟨b, off + n / 16 + j, none⟩) hbg).trans (HCL.out j hjE)
        have cf : wr.frozen? ⟨w5.heap.size, j, none⟩ = false := hr.frozen _
        have c1 : wr.cell? ⟨w5.heap.size, j, none⟩ = some (.int .i64 zs[j]) := RowI.num (r := []) (by simpa using hr) hjz
        have hxe : E.getD j 0 = E[j] := by simp [hjE]
        have HXE := hid hxe
        clear hxe
        generalize E.getD j 0 = x at *
        obtain ⟨hx1, hx2⟩ := hx
        obtain ⟨st, sq0, sq1⟩ := HT.out.step hP1 hjE HXE.out hx1 hx2 hc0 hc1
        have ST := hid st
        have HR := RowI.setNum (r := []) (by simpa using hr) hjz ((cc * 65536 + x) / (P : Int))
        have HB2 := hb.setCell (p := ⟨w5.heap.size, j, none⟩) (Nat.le_refl _) (.int .i64 ((cc * 65536 + x) / (P : Int)))
        have hhs2 : w5.heap.size < (wr.setCell ⟨w5.heap.size, j, none⟩ (.int .i64 ((cc * 65536 + x) / (P : Int)))).heap.size := by simpa using hhs
        have hm0 : 0 ≤ (cc * 65536 + x) % (P : Int) := Int.emod_nonneg _ (by omega)
        have hm1 : (cc * 65536 + x) % (P : Int) < (P : Int) := Int.emod_lt_of_pos _ (by omega)
        have hPz : ((P : Int) == 0) = false := by rw [beq_eq_false_iff_ne]; omega
        clear st HT hr hb hhs hk0
        generalize zs[j] = z at *
        go_wp2
        go_roundw
        case rel => exact ⟨j, _, _, by omega, rfl, rfl, hm0, hm1, ST, (by simpa using HR), HB2, hhs2⟩
        case measure => simp [intOf]
end Go.Proofs.YtagfekcocdjhlaaDoor
