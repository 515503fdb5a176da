/-
  Split: the reference's Split.
-/
import Derived.Test.YtojhmkkjjalonaaQSlIntsToRowsI
namespace Go.Proofs.Ytojhmkkjjalonaa
open Go.RowKit

theorem dpw_four : ∀ k, dpw (4 * k) = pw k
  | 0 => rfl
  | k + 1 => by
    rw [show 4 * (k + 1) = 4 * k + 1 + 1 + 1 + 1 by omega, dpw, dpw, dpw, dpw, dpw_four k, pw]
    unfold dwB wB; omega

theorem split_step {zs : List Int} {n : Nat} {y T : Int} (hn : zs.length = n) (hd : DF zs) (hv : dval zs + dpw n * y = T) : DF (zs ++ [y % 65536]) ∧ dval (zs ++ [y % 65536]) + dpw (n + 1) * (y / 65536) = T := by
  refine ⟨hd.append (DF.cons (by unfold IsD dwB; omega) DF.nil), ?_⟩
  rw [dval_append, hn, dpw, ← hv]
  have h := Int.mul_ediv_add_emod y 65536
  have e : dpw n * y = dpw n * (y % 65536) + dwB * dpw n * (y / 65536) := by
    conv => lhs; rw [← h]
    rw [Int.mul_add, Int.mul_comm dwB, Int.mul_assoc, Int.add_comm]; rfl
  simp [dval]
  omega
theorem split_bound {y : Int} {j : Nat} (h : y * 65536 ^ j ≤ 18446744073709551615) : y / 65536 * 65536 ^ (j + 1) ≤ 18446744073709551615 := by
  have h1 : y / 65536 * 65536 ≤ y := Int.ediv_mul_le y (by omega)
  have h2 : (0 : Int) ≤ 65536 ^ j := Int.pow_nonneg (by omega)
  have h3 := Int.mul_le_mul_of_nonneg_right h1 h2
  rw [Int.pow_succ, Int.mul_comm (65536 ^ j), ← Int.mul_assoc]
  omega

set_option maxHeartbeats 1600000 in
theorem split_any {w : World} {v : Value} {xs : List Int} (h : Sl w.heap.size w v xs) (hlen : xs.length ≤ 8796093022208) :
    Calls Try.prog 78 #[v] w fun e w' => ∃ ds r, e = .returned r ∧ SlI w'.heap.size w' r ds ∧ DCanon ds ∧ dval ds = val xs ∧ ds.length ≤ 4 * xs.length ∧ Below w.heap.size w w' := by
  obtain ⟨hw, a, cap, rfl, hlc, hcm, hm⟩ := h
  have HW := hid hw
  have HM := hid hm
  clear hm hw
  go_enter Try.func78, Try.ntmps78
  go_wp2_with (at_make; refine wpList_make_ints _ rfl _ _ rfl _ _ 0 (4 * xs.length) rfl rfl rfl (by omega) (by omega) (by omega) ?_)
  intro w2 hrow hb2 hsz2
  have hhs : w.heap.size < w2.heap.size := by have := hsz2.out; omega
  clear hsz2
  go_wp2_with fail
  go_loopw [3, 4] (fun d i wr => ∃ (k : Nat) (zs : List Int) (r : List Value), k ≤ xs.length ∧ i = .int .i64 k ∧ d = .slice (some ⟨w.heap.size, 0, none⟩) (4 * k) (4 * xs.length) ∧ Hid (zs.length = 4 * k) ∧ Hid (r.length + 4 * k = 4 * xs.length) ∧ Hid (DF zs) ∧ Hid (dval zs = val (xs.take k)) ∧
      RowI wr w.heap.size (wi zs ++ r) ∧ Below w.heap.size w wr ∧ w.heap.size < wr.heap.size) (fun _ i _ => xs.length - (intOf i).toNat)
  case atStart => exact ⟨0, [], wi (List.replicate (4 * xs.length) 0), Nat.zero_le _, rfl, rfl, rfl, (by unfold Hid; simp [length_wi]), DF.nil, rfl, (by simpa [wi] using hrow), hb2, hhs⟩
  case round =>
    clear hrow hb2 hhs
    obtain ⟨k, zs, r, hk, rfl, rfl, HL, HR, HD, HV, hr, hb, hhs⟩ := hrel
    by_cases hlt : k < xs.length
    · rcases HM.out with e | ⟨b, off, rfl, hbg, hc⟩
      · subst e; simp at hlt
      have c1 : wr.cell? ⟨b, off + k, none⟩ = some (.int .u64 xs[k]) := (hb.cell (p := ⟨b, off + k, none⟩) hbg).trans (hc k hlt)
      have hx := HW.out.get hlt
      have HTK := hid (val_take_succ xs k hlt)
      clear hc
      generalize xs[k] = x at *
      unfold IsW wB at hx
      obtain ⟨hx0, hx1⟩ := hx
      have HV1 : Hid (dval zs + dpw (4 * k + 0) * x = val (xs.take k) + x * pw k) := by
        unfold Hid; rw [HV.out, Nat.add_zero, dpw_four, Int.mul_comm]
      have HB1 : Hid (x * 65536 ^ 0 ≤ 18446744073709551615) := by unfold Hid; simp; omega
      go_wp2_with fail
      go_loopw [3, 5, 6] (fun d y i wr => ∃ (j : Nat) (zs : List Int) (r : List Value) (yy : Int), j ≤ 4 ∧ i = .int .i64 j ∧ y = .int .u64 yy ∧ 0 ≤ yy ∧ yy ≤ 18446744073709551615 ∧ d = .slice (some ⟨w.heap.size, 0, none⟩) (4 * k + j) (4 * xs.length) ∧ Hid (zs.length = 4 * k + j) ∧ Hid (r.length + 4 * k + j = 4 * xs.length) ∧ Hid (DF zs) ∧
          Hid (yy * 65536 ^ j ≤ 18446744073709551615) ∧ Hid (dval zs + dpw (4 * k + j) * yy = val (xs.take k) + x * pw k) ∧ RowI wr w.heap.size (wi zs ++ r) ∧ Below w.heap.size w wr ∧ w.heap.size < wr.heap.size) (fun _ _ i _ => 4 - (intOf i).toNat)
      case atStart => exact ⟨0, zs, r, x, by omega, rfl, rfl, hx0, by omega, rfl, HL, HR, HD, HB1, HV1, hr, hb, hhs⟩
      case round =>
        clear HL HR HD HB1 HV1 hr hb hhs HV
        obtain ⟨j, zs, r, yy, hj, rfl, rfl, hy0, hy1, rfl, HL, HR, HD, HB, HV, hr, hb, hhs⟩ := hrel
        by_cases hj4 : j < 4
        · have hrp : 0 < r.length := by have := HR.out; omega
          have hst := hid (split_step HL.out HD.out HV.out)
          have hbd := hid (split_bound HB.out)
          go_wp2_with (at_builtin; refine wpList_append_int _ rfl (.tmp 25) (.tmp 29) rfl w.heap.size (4 * k + j) (4 * xs.length) zs r (yy % 65536) (hr.alloc _) HL.out hrp (by have := HR.out; omega) rfl ⟨wr.heap.size, 0, none⟩ rfl (by simp) ?_)
          intro w5 hr5 hb5
          have hb15 := hid ((hb.alloc (Nat.le_of_lt hhs) _).trans hb5)
          have hhs5 : w.heap.size < w5.heap.size := by have := hb5.size; simp at this; omega
          have HL5 : Hid ((zs ++ [yy % 65536]).length = 4 * k + (j + 1)) := by unfold Hid; simp; have := HL.out; omega
          have HR5 : Hid (r.tail.length + 4 * k + (j + 1) = 4 * xs.length) := by unfold Hid; simp; have := HR.out; omega
          clear hb5 hr hb HL HR HD HB HV
          go_wp2
          go_roundw
          case rel => exact ⟨j + 1, _, r.tail, yy / 65536, by omega, by go_num, rfl, by omega, by omega, rfl, HL5, HR5, hst.out.1, hbd, hst.out.2, hr5, hb15.out, hhs5⟩
          case measure => simp [intOf]; omega
        · obtain rfl : j = 4 := by omega
          have hy : yy = 0 := by
            have := HB.out
            rw [show (65536 : Int) ^ 4 = 18446744073709551616 from by decide] at this
            omega
          have HV5 : Hid (dval zs = val (xs.take (k + 1))) := by
            unfold Hid
            have := HV.out
            rw [hy] at this
            rw [HTK.out]; simpa using this
          clear hy HB HV
          go_wp2
          go_roundw
          case rel => exact ⟨k + 1, zs, r, by omega, by go_num, rfl, HL, (by unfold Hid; have := HR.out; omega), HD, HV5, hr, hb, hhs⟩
          case measure => simp [intOf]; omega
    · obtain rfl : k = xs.length := by omega
      have hsz := RowI.sl hr (fun p hp => by have := HD.out p hp; unfold IsD dwB at this; omega) (cap := 4 * xs.length) (by rw [HL.out]; exact Nat.le_refl _) (by omega) hhs
      rw [HL.out] at hsz
      have HT := hid (trim_any hsz)
      clear hsz hr
      go_wp2_with fail
      refine HT.out.mono ?_
      rintro e w4 ⟨rv, rfl, hs4, rfl⟩
      go_wp2
      go_ret
      refine ⟨dlst zs, rv, rfl, hs4, dcanon_lst HD.out, ?_, ?_, hb⟩
      · rw [dval_lst, HV.out, List.take_length]
      · rw [dlength_lst]; have := dwid_le zs; have := HL.out; omega
end Go.Proofs.Ytojhmkkjjalonaa
