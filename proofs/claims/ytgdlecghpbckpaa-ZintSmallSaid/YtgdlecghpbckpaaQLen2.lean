/-
  Len2: Len64 at every word; BitLen at every list.
-/
import Derived.Test.YtgdlecghpbckpaaQBase
import Derived.Test.YtgdlecghpbckpaaQBits
import Derived.Shelf.Strconv.Itoa0
namespace Go.Proofs.Ytgdlecghpbckpaa
open Go.RowKit

theorem lib_bitLen : ∀ (f v : Nat), v < 2 ^ f → Lib.bitLenAux f v = bitLen v
  | 0, v, h => by simp at h; subst h; rfl
  | f + 1, v, h => by
    unfold Lib.bitLenAux
    split
    · rename_i h0; subst h0; rfl
    · rename_i h0
      rw [lib_bitLen f (v / 2) (by rw [Nat.pow_succ] at h; omega)]
      by_cases h1 : v / 2 = 0
      · have : v = 1 := by omega
        subst this; rfl
      · rw [bitLen_shift v 1 (by simpa using h1)]

def lays129_ren : Go.Shelf.Ren := ⟨fun | 129 => 19 | n => n, fun | 53 => 35 | 3 => 3 | 4 => 4 | 46 => 53 | 5 => 5 | 9 => 9 | n => n, fun | n => n⟩
theorem lays129 : Go.Proofs.Lays.n129 Try.prog lays129_ren := {
  mixed := by kernel_rfl
  f129 := Try.func19.trans (congrArg some (by kernel_rfl))
  t3 := Try.underlying3
  a3 := Try.isAgg3
  z3 := Try.sizeOf3
  v3 := Try.zeroValue3
  t4 := Try.underlying4
  a4 := Try.isAgg4
  z4 := Try.sizeOf4
  v4 := Try.zeroValue4
  t5 := Try.underlying5
  a5 := Try.isAgg5
  z5 := Try.sizeOf5
  v5 := Try.zeroValue5
  t9 := Try.underlying9
  a9 := Try.isAgg9
  z9 := Try.sizeOf9
  v9 := Try.zeroValue9
  t46 := Try.underlying53
  a46 := Try.isAgg53
  z46 := Try.sizeOf53
  v46 := Try.zeroValue53
  t53 := Try.underlying35
  a53 := Try.isAgg35
  z53 := Try.sizeOf35
  v53 := Try.zeroValue35 }
theorem len64_any {x : Int} (hx : IsW x) (w : World) : Calls Try.prog 19 #[.int .u64 x] w fun e w' => e = .returned (.int .i64 (bitLen x.toNat : Int)) ∧ w' = w := by
  have h := toNat_lt hx
  have hb : x ≤ 18446744073709551615 := by unfold IsW wB at hx; omega
  have := Any.bits_Len64 lays129 x w hx.1 hb
  rw [show Lib.bitLen x.toNat = bitLen x.toNat from lib_bitLen 64 _ h] at this
  exact this

theorem bitLen_small {x : Nat} (h : x < 2 ^ 64) : bitLen x ≤ 64 := by
  unfold bitLen
  split
  · omega
  · rename_i h0
    have := (Nat.log2_lt h0).2 h
    omega

set_option maxHeartbeats 800000 in
theorem bitLen_any {B : Nat} {w : World} {v : Value} {xs : List Int} (h : Sl B w v xs) :
    Calls Try.prog 12 #[v] w fun e w' => e = .returned (.int .i64 (bitLen (vn xs) : Int)) ∧ w' = w := by
  have hs := h
  obtain ⟨hw, a, cap, rfl, hlc, hcm, hm⟩ := h
  have HW := width_any hs
  have l1 := wid_le xs
  by_cases h0 : wid xs = 0
  · rw [wid_zero_vn hw h0]
    rw [h0] at HW
    have hz : ((0 : Int) == 0) = true := rfl
    go_enter Try.func12, Try.ntmps12
    go_wp2_with fail
    refine HW.mono ?_
    rintro e w1 ⟨rfl, rfl⟩
    clear HW
    go_wp2
    go_ret
    exact ⟨rfl, rfl⟩
  · obtain ⟨n, hn⟩ : ∃ n, wid xs = n + 1 := ⟨wid xs - 1, by omega⟩
    obtain ⟨hl, hne⟩ := wid_top hn
    rcases hm with e | ⟨b, off, rfl, hb, hc⟩
    · subst e; simp at hl
    have c1 := hc n hl
    have hx := hw.get hl
    have HB : Hid (bitLen (vn xs) = 64 * n + bitLen xs[n].toNat) := bitLen_words hw hn hl
    have hbs := bitLen_small (toNat_lt hx)
    have HLn := hid (len64_any hx w)
    rw [hn] at HW l1
    generalize xs[n] = x at *
    generalize bitLen x.toNat = bx at *
    generalize bitLen (vn xs) = r at *
    have hz : (((n + 1 : Nat) : Int) == 0) = false := by rw [beq_eq_false_iff_ne]; omega
    clear hc hw h0 hn hne hs
    go_enter Try.func12, Try.ntmps12
    go_wp2_with fail
    refine HW.mono ?_
    rintro e w1 ⟨rfl, rfl⟩
    clear HW
    go_wp2_with fail
    refine HLn.out.mono ?_
    rintro e w2 ⟨rfl, rfl⟩
    go_wp2
    go_ret
    refine ⟨congrArg Ending.returned (congrArg (Value.int IntKind.i64) ?_), rfl⟩
    rw [HB.out]
    omega
end Go.Proofs.Ytgdlecghpbckpaa
