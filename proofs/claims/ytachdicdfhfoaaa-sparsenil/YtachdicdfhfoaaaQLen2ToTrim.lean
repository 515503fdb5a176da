/-
  QLen2ToTrim: Len2, Trim, joined.
-/
import Derived.Test.YtachdicdfhfoaaaQBaseToOpen
import Derived.Test.YtachdicdfhfoaaaQBits
import Derived.Shelf.Strconv.Itoa0
import Derived.Test.YtachdicdfhfoaaaQMulwToTimes
import Derived.Test.YtachdicdfhfoaaaQMade

/- Len2 -/
namespace Go.Proofs.Ytachdicdfhfoaaa
open Go.RowKit

theorem lib_bitLen : ∀ (f v : Nat), v < 2 ^ f → Lib.bitLenAux f v = bitLen v
  | 0, v, h => by simp at h; subst h; rfl
  | f + 1, v, h => by
    unfold Lib.bitLenAux
    split
    · rename_i h0; subst h0; rfl
    · rename_i h0
      rw [lib_bitLen f (v / 2) (by rw [Nat.pow_succ] at h; omega)]
      by_cases h1 : v / 2 = 0
      · have : v = 1 := by omega
        subst this; rfl
      · rw [bitLen_shift v 1 (by simpa using h1)]

def lays129_ren : Go.Shelf.Ren := ⟨fun | 129 => 89 | n => n, fun | 53 => 62 | 3 => 3 | 4 => 4 | 46 => 125 | 5 => 5 | 9 => 9 | n => n, fun | n => n⟩
theorem lays129 : Go.Proofs.Lays.n129 Try.prog lays129_ren := {
  mixed := by kernel_rfl
  f129 := Try.func89.trans (congrArg some (by kernel_rfl))
  t3 := Try.underlying3
  a3 := Try.isAgg3
  z3 := Try.sizeOf3
  v3 := Try.zeroValue3
  t4 := Try.underlying4
  a4 := Try.isAgg4
  z4 := Try.sizeOf4
  v4 := Try.zeroValue4
  t5 := Try.underlying5
  a5 := Try.isAgg5
  z5 := Try.sizeOf5
  v5 := Try.zeroValue5
  t9 := Try.underlying9
  a9 := Try.isAgg9
  z9 := Try.sizeOf9
  v9 := Try.zeroValue9
  t46 := Try.underlying125
  a46 := Try.isAgg125
  z46 := Try.sizeOf125
  v46 := Try.zeroValue125
  t53 := Try.underlying62
  a53 := Try.isAgg62
  z53 := Try.sizeOf62
  v53 := Try.zeroValue62 }
theorem len64_any {x : Int} (hx : IsW x) (w : World) : Calls Try.prog 89 #[.int .u64 x] w fun e w' => e = .returned (.int .i64 (bitLen x.toNat : Int)) ∧ w' = w := by
  have h := toNat_lt hx
  have hb : x ≤ 18446744073709551615 := by unfold IsW wB at hx; omega
  have := Any.bits_Len64 lays129 x w hx.1 hb
  rw [show Lib.bitLen x.toNat = bitLen x.toNat from lib_bitLen 64 _ h] at this
  exact this

theorem bitLen_small {x : Nat} (h : x < 2 ^ 64) : bitLen x ≤ 64 := by
  unfold bitLen
  split
  · omega
  · rename_i h0
    have := (Nat.log2_lt h0).2 h
    omega

set_option maxHeartbeats 800000 in
theorem bitLen_any {B : Nat} {w : World} {v : Value} {xs : List Int} (h : Sl B w v xs) :
    Calls Try.prog 70 #[v] w fun e w' => e = .returned (.int .i64 (bitLen (vn xs) : Int)) ∧ w' = w := by
  have hs := h
  obtain ⟨hw, a, cap, rfl, hlc, hcm, hm⟩ := h
  have HW := width_any hs
  have l1 := wid_le xs
  by_cases h0 : wid xs = 0
  · rw [wid_zero_vn hw h0]
    rw [h0] at HW
    have hz : ((0 : Int) == 0) = true := rfl
    go_enter Try.func70, Try.ntmps70
    go_wp2_with fail
    refine HW.mono ?_
    rintro e w1 ⟨rfl, rfl⟩
    clear HW
    go_wp2
    go_ret
    exact ⟨rfl, rfl⟩
  · obtain ⟨n, hn⟩ : ∃ n, wid xs = n + 1 := ⟨wid xs - 1, by omega⟩
    obtain ⟨hl, hne⟩ := wid_top hn
    rcases hm with e | ⟨b, off, rfl, hb, hc⟩
    · subst e; simp at hl
    have c1 := hc n hl
    have hx := hw.get hl
    have HB : Hid (bitLen (vn xs) = 64 * n + bitLen xs[n].toNat) := bitLen_words hw hn hl
    have hbs := bitLen_small (toNat_lt hx)
    have HLn := hid (len64_any hx w)
    rw [hn] at HW l1
    generalize xs[n] = x at *
    generalize bitLen x.toNat = bx at *
    generalize bitLen (vn xs) = r at *
    have hz : (((n + 1 : Nat) : Int) == 0) = false := by rw [beq_eq_false_iff_ne]; omega
    clear hc hw h0 hn hne hs
    go_enter Try.func70, Try.ntmps70
    go_wp2_with fail
    refine HW.mono ?_
    rintro e w1 ⟨rfl, rfl⟩
    clear HW
    go_wp2_with fail
    refine HLn.out.mono ?_
    rintro e w2 ⟨rfl, rfl⟩
    go_wp2
    go_ret
    refine ⟨congrArg Ending.returned (congrArg (Value.int IntKind.i64) ?_), rfl⟩
    rw [HB.out]
    omega
end Go.Proofs.Ytachdicdfhfoaaa

/- Trim -/
namespace Go.Proofs.Ytachdicdfhfoaaa
open Go.RowKit
set_option linter.unusedVariables false

theorem wid_of_len {xs : List Int} (hw : WF xs) : ∃ b : Nat, bitLen (vn xs) = b ∧ (b + 63) / 64 = wid xs ∧ b ≤ 64 * xs.length := by
  refine ⟨_, rfl, ?_⟩
  by_cases h0 : wid xs = 0
  · rw [wid_zero_vn hw h0, h0]
    exact ⟨rfl, by rw [show bitLen 0 = 0 from rfl]; omega⟩
  · obtain ⟨n, hn⟩ : ∃ n, wid xs = n + 1 := ⟨wid xs - 1, by omega⟩
    obtain ⟨hl, hne⟩ := wid_top hn
    have h1 := bitLen_words hw hn hl
    have h2 := bitLen_small (toNat_lt (hw.get hl))
    have h3 : 0 < bitLen xs[n].toNat := by
      unfold bitLen
      split
      · rename_i e
        have := (hw.get hl).1
        omega
      · omega
    rw [h1, hn]
    exact ⟨by omega, by omega⟩

/-- A slice that a call made itself: nil, or at the head of a row from block B on. -/
def Mine (B : Nat) (w : World) (v : Value) (zs : List Int) : Prop :=
  WF zs ∧ ((v = .slice none 0 0 ∧ zs = []) ∨ ∃ g r cap, B ≤ g ∧ zs.length ≤ 35184372088832 ∧ zs.length ≤ cap ∧ (cap = zs.length ∨ (cap = zs.length + r.length ∧ cap ≤ maxLen)) ∧ v = .slice (some ⟨g, 0, none⟩) zs.length cap ∧ Row w g (ws zs ++ r))
theorem Mine.form {B : Nat} {w : World} {v : Value} {zs : List Int} (h : Mine B w v zs) : ∃ a cap, v = .slice a zs.length cap := by
  obtain ⟨_, ⟨h1, h2⟩ | ⟨g, r, cap, _, _, _, _, h1, _⟩⟩ := h
  · subst h2; exact ⟨none, 0, h1⟩
  · exact ⟨_, _, h1⟩
theorem Mine.sl {B : Nat} {w : World} {v : Value} {zs : List Int} (h : Mine B w v zs) : Sl w.heap.size w v zs := by
  obtain ⟨hw, ⟨h1, h2⟩ | ⟨g, r, cap, h1, h2, h3, h4, h5, h6⟩⟩ := h
  · subst h1 h2; exact Sl.nilAt w
  · subst h5
    exact ⟨hw, _, cap, rfl, h3, h2, .inr ⟨g, 0, rfl, h6.lt, fun j hj => by rw [Nat.zero_add]; exact h6.word hj⟩⟩
theorem Mine.nil (B : Nat) (w : World) : Mine B w (.slice none 0 0) [] := ⟨WF.nil, .inl ⟨rfl, rfl⟩⟩
theorem Mine.mono {B B' : Nat} {w : World} {v : Value} {zs : List Int} (h : Mine B w v zs) (hB : B' ≤ B) : Mine B' w v zs := by
  obtain ⟨hw, h | ⟨g, r, cap, h1, h2⟩⟩ := h
  · exact ⟨hw, .inl h⟩
  · exact ⟨hw, .inr ⟨g, r, cap, by omega, h2⟩⟩
theorem Mine.below {B : Nat} {w w' : World} {v : Value} {zs : List Int} (h : Mine B w v zs) (hb : Below w.heap.size w w') : Mine B w' v zs := by
  obtain ⟨hw, h | ⟨g, r, cap, h1, h2, h3, h4, h5, h6⟩⟩ := h
  · exact ⟨hw, .inl h⟩
  · exact ⟨hw, .inr ⟨g, r, cap, h1, h2, h3, h4, h5, h6.below hb h6.lt⟩⟩

set_option maxHeartbeats 800000 in
theorem trimmed_any {B : Nat} {w : World} {a : Option Addr} {len cap : Nat} {xs : List Int} (h : Sl B w (.slice a len cap) xs) :
    Calls Try.prog 119 #[.slice a len cap] w fun e w' => e = .returned (.slice a (wid xs) (wid xs)) ∧ w' = w := by
  have HB := bitLen_any h
  obtain ⟨b, hb1, hb2, hb3⟩ := wid_of_len h.1
  rw [hb1] at HB
  have l1 := wid_le xs
  obtain ⟨hw, a', cap', he, hlc, hcm, hm⟩ := h
  simp only [Value.slice.injEq] at he
  obtain ⟨rfl, rfl, rfl⟩ := he
  clear hm hw hb1
  generalize wid xs = n at *
  generalize xs.length = L at *
  go_enter Try.func119, Try.ntmps119
  go_wp2_with fail
  refine HB.mono ?_
  rintro e w1 ⟨rfl, rfl⟩
  clear HB
  go_wp2
  go_ret
  exact ⟨by rw [show (b + 64 - 1) / 64 = n by omega]; rfl, rfl⟩
end Go.Proofs.Ytachdicdfhfoaaa
