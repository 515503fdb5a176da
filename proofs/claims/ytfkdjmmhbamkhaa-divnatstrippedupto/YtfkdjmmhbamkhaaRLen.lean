/-
  RLen: the reference's BitLen.
-/
import Derived.Test.YtfkdjmmhbamkhaaRLeast
import Derived.Test.YtfkdjmmhbamkhaaRAdd
import Derived.Test.YtfkdjmmhbamkhaaLen2
namespace Go.Proofs.Ytfkdjmmhbamkhaa
open Go.RowKit

theorem dpw_pow : ∀ k, dpw k = ((2 ^ (16 * k) : Nat) : Int)
  | 0 => rfl
  | k + 1 => by rw [dpw, dpw_pow k, show 16 * (k + 1) = 16 + 16 * k by omega, Nat.pow_add]; unfold dwB; omega
theorem dval_dn {X : List Int} (hX : DF X) : ∃ V : Nat, dval X = (V : Int) ∧ V < 2 ^ (16 * X.length) := by
  have h0 := dval_nonneg hX
  have h1 := dval_lt_pw hX
  rw [dpw_pow] at h1
  obtain ⟨V, hV⟩ := Int.eq_ofNat_of_zero_le h0
  exact ⟨V, hV, by rw [hV] at h1; omega⟩
/-- The number of a list of digits taken apart at one of them. -/
theorem at_digit {X : List Int} (hX : DF X) {i : Nat} (h : i < X.length) {V : Nat} (hV : dval X = (V : Int)) : ∃ A C : Nat, A < 2 ^ (16 * i) ∧ V = A + 2 ^ (16 * i) * ((X.getD i 0).toNat + 65536 * C) ∧ dval (X.take i) = (A : Int) ∧ dval (X.drop (i + 1)) = (C : Int) := by
  obtain ⟨A, hA, hA2⟩ := dval_dn (hX.take i)
  rw [List.length_take, Nat.min_eq_left (by omega)] at hA2
  obtain ⟨C, hC, _⟩ := dval_dn (hX.drop (i + 1))
  have hx := dig_get hX i
  have e := dval_append (X.take i) (X.drop i)
  rw [List.take_append_drop, List.length_take, Nat.min_eq_left (by omega), List.drop_eq_getElem_cons h, dval, hA, hC, hV, dpw_pow] at e
  have hg : X.getD i 0 = X[i] := by simp [h]
  rw [← hg] at e
  refine ⟨A, C, hA2, ?_, hA, hC⟩
  generalize X.getD i 0 = x at *
  obtain ⟨x', rfl⟩ := Int.eq_ofNat_of_zero_le hx.1
  unfold dwB at e
  have : ((2 ^ (16 * i) * (x' + 65536 * C) : Nat) : Int) = ((2 ^ (16 * i) : Nat) : Int) * ((x' : Int) + 65536 * (C : Int)) := by rw [Int.natCast_mul]; rfl
  rw [← this] at e
  simp only [Int.toNat_natCast]
  omega
theorem bitLen_half {v : Nat} (h : v ≠ 0) : bitLen v = bitLen (v / 2) + 1 := by
  by_cases h1 : v / 2 = 0
  · have : v = 1 := by omega
    subst this; rfl
  · rw [bitLen_shift v 1 (by simpa using h1), Nat.pow_one]; omega
theorem bitLen_digits {X : List Int} (hX : DCanon X) {N : Nat} (hN : X.length = N + 1) {V : Nat} (hV : dval X = (V : Int)) : bitLen V = 16 * N + bitLen (X.getD N 0).toNat := by
  obtain ⟨A, C, hA, hVe, _, hC⟩ := at_digit hX.1 (i := N) (by omega) hV
  rw [List.drop_of_length_le (by omega)] at hC
  have hC0 : C = 0 := by simp [dval] at hC; omega
  obtain ⟨h1, h2⟩ := dwid_top (show dwid X = N + 1 by rw [hX.2]; exact hN)
  have hx := dig_get hX.1 N
  have hg : X.getD N 0 = X[N] := by simp [h1]
  rw [hVe, hC0, Nat.mul_zero, Nat.add_zero, bitLen_top hA (by rw [hg] at hx ⊢; omega)]
set_option maxHeartbeats 1600000 in
theorem rbitLen_any {w : World} {v : Value} {xs : List Int} (h : Sl w.heap.size w v xs) (hlen : xs.length ≤ 1099511627776) :
    Calls Try.prog 24 #[v] w fun e w' => e = .returned (.int .i64 (bitLen (vn xs) : Int)) ∧ Below w.heap.size w w' := by
  have hvn := hid (val_vn h.1)
  generalize hS : bitLen (vn xs) = S
  have HS := hid hS
  clear hS
  go_enter Try.func24, Try.ntmps24
  go_wp2_with fail
  refine (split_any h (by omega)).mono ?_
  rintro e w1 ⟨X, rx, rfl, hs, hcx, hvx, hlx, hb⟩
  have HVX : Hid (dval X = (vn xs : Int)) := by unfold Hid; rw [hvx]; exact hvn.out
  have HB := hid hb
  clear hvx h hb
  obtain ⟨-, ax, capx, rfl, hlcx, hcmx, hmx⟩ := hs
  by_cases hx0 : X.length = 0
  · have hX : X = [] := List.eq_nil_of_length_eq_zero hx0
    have hz : ((X.length : Int) == 0) = true := by rw [beq_iff_eq]; omega
    have HE : Hid (S = 0) := by
      unfold Hid
      have q := HVX.out
      rw [hX] at q
      have : vn xs = 0 := by simp [dval] at q; omega
      rw [← HS.out, this]; rfl
    clear hX hmx hcx
    go_wp2
    go_ret
    exact ⟨by rw [HE.out]; rfl, HB.out⟩
  · obtain ⟨N, hN⟩ : ∃ N, X.length = N + 1 := ⟨X.length - 1, by omega⟩
    rcases hmx with e | ⟨b, off, rfl, hbg, hc⟩
    · subst e; simp at hN
    have hz : (((N + 1 : Nat) : Int) == 0) = false := by rw [beq_eq_false_iff_ne]; omega
    have HBL := hid (bitLen_digits hcx hN HVX.out)
    have hx := dig_get hcx.1 N
    have cx : w1.cell? ⟨b, off + N, none⟩ = some (.int .i64 (X.getD N 0)) := by rw [hc N (by omega)]; simp [show N < X.length by omega]
    rw [hN] at hlcx
    rw [hN]
    generalize X.getD N 0 = x at *
    obtain ⟨hx1, hx2⟩ := hx
    have hNb : N ≤ 4398046511104 := by omega
    clear hc hx0 hcx hN hlx
    go_wp2_with fail
    go_loop [4, 5] (fun k y => ∃ (c W : Nat), c ≤ 65536 ∧ k = .int .i64 ((16 * N + c : Nat) : Int) ∧ y = .int .i64 (W : Int) ∧ W + c ≤ 65536 ∧ Hid (S = 16 * N + c + bitLen W)) (fun _ y => (intOf y).toNat)
    case atStart => exact ⟨0, x.toNat, by omega, (by go_num), (by rw [Int.toNat_of_nonneg hx1]), by omega, (by unfold Hid; rw [← HS.out, HBL.out, Nat.add_zero])⟩
    case round =>
      obtain ⟨c, W, hcb, rfl, rfl, hW, HI⟩ := hrel
      by_cases hW0 : W = 0
      · subst hW0
        go_wp2
        go_ret
        refine ⟨congrArg Ending.returned (congrArg (Value.int IntKind.i64) ?_), HB.out⟩
        rw [HI.out]; simp [bitLen]
      · have HI2 : Hid (S = 16 * N + (c + 1) + bitLen (W / 2)) := by unfold Hid; rw [HI.out, bitLen_half hW0]; omega
        have hWp : (0 : Int) < (W : Int) := by omega
        clear HI
        go_wp2
        go_round
        case rel => exact ⟨c + 1, W / 2, by omega, by go_num, by go_num, by omega, HI2⟩
        case measure => simp [intOf]; omega

end Go.Proofs.Ytfkdjmmhbamkhaa
