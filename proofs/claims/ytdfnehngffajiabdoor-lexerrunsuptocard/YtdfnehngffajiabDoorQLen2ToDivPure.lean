/-
  QLen2ToDivPure: Len2, WriteWord, DivPure, joined.
-/
import Derived.Test.YtdfnehngffajiabDoorQBaseToSt25
import Derived.Test.YtdfnehngffajiabDoorQByteRowToBits
import Derived.Shelf.Strconv.Itoa0

/- Len2 -/
namespace Go.Proofs.YtdfnehngffajiabDoor
open Go.RowKit

theorem lib_bitLen : ∀ (f v : Nat), v < 2 ^ f → Lib.bitLenAux f v = bitLen v
  | 0, v, h => by simp at h; subst h; rfl
  | f + 1, v, h => by
    unfold Lib.bitLenAux
    split
    · rename_i h0; subst h0; rfl
    · rename_i h0
      rw [lib_bitLen f (v / 2) (by rw [Nat.pow_succ] at h; omega)]
      by_cases h1 : v / 2 = 0
      · have : v = 1 := by omega
        subst this; rfl
      · rw [bitLen_shift v 1 (by simpa using h1)]

def lays129_ren : Go.Shelf.Ren := ⟨fun | 129 => 64 | n => n, fun | 53 => 78 | 3 => 3 | 4 => 4 | 46 => 77 | 5 => 5 | 9 => 9 | n => n, fun | n => n⟩
theorem lays129 : Go.Proofs.Lays.n129 Tryd.prog lays129_ren := {
  mixed := by kernel_rfl
  f129 := Tryd.func64.trans (congrArg some (by kernel_rfl))
  t3 := Tryd.underlying3
  a3 := Tryd.isAgg3
  z3 := Tryd.sizeOf3
  v3 := Tryd.zeroValue3
  t4 := Tryd.underlying4
  a4 := Tryd.isAgg4
  z4 := Tryd.sizeOf4
  v4 := Tryd.zeroValue4
  t5 := Tryd.underlying5
  a5 := Tryd.isAgg5
  z5 := Tryd.sizeOf5
  v5 := Tryd.zeroValue5
  t9 := Tryd.underlying9
  a9 := Tryd.isAgg9
  z9 := Tryd.sizeOf9
  v9 := Tryd.zeroValue9
  t46 := Tryd.underlying77
  a46 := Tryd.isAgg77
  z46 := Tryd.sizeOf77
  v46 := Tryd.zeroValue77
  t53 := Tryd.underlying78
  a53 := Tryd.isAgg78
  z53 := Tryd.sizeOf78
  v53 := Tryd.zeroValue78 }
theorem len64_any {x : Int} (hx : IsW x) (w : World) : Calls Tryd.prog 64 #[.int .u64 x] w fun e w' => e = .returned (.int .i64 (bitLen x.toNat : Int)) ∧ w' = w := by
  have h := toNat_lt hx
  have hb : x ≤ 18446744073709551615 := by unfold IsW wB at hx; omega
  have := Any.bits_Len64 lays129 x w hx.1 hb
  rw [show Lib.bitLen x.toNat = bitLen x.toNat from lib_bitLen 64 _ h] at this
  exact this

theorem bitLen_small {x : Nat} (h : x < 2 ^ 64) : bitLen x ≤ 64 := by
  unfold bitLen
  split
  · omega
  · rename_i h0
    have := (Nat.log2_lt h0).2 h
    omega

set_option maxHeartbeats 800000 in
theorem bitLen_any {B : Nat} {w : World} {v : Value} {xs : List Int} (h : Sl B w v xs) :
    Calls Tryd.prog 58 #[v] w fun e w' => e = .returned (.int .i64 (bitLen (vn xs) : Int)) ∧ w' = w := by
  have hs := h
  obtain ⟨hw, a, cap, rfl, hlc, hcm, hm⟩ := h
  have HW := width_any hs
  have l1 := wid_le xs
  by_cases h0 : wid xs = 0
  · rw [wid_zero_vn hw h0]
    rw [h0] at HW
    have hz : ((0 : Int) == 0) = true := rfl
    go_enter Tryd.func58, Tryd.ntmps58
    go_wp2_with fail
    refine HW.mono ?_
    rintro e w1 ⟨rfl, rfl⟩
    clear HW
    go_wp2
    go_ret
    exact ⟨rfl, rfl⟩
  · obtain ⟨n, hn⟩ : ∃ n, wid xs = n + 1 := ⟨wid xs - 1, by omega⟩
    obtain ⟨hl, hne⟩ := wid_top hn
    rcases hm with e | ⟨b, off, rfl, hb, hc⟩
    · subst e; simp at hl
    have c1 := hc n hl
    have hx := hw.get hl
    have HB : Hid (bitLen (vn xs) = 64 * n + bitLen xs[n].toNat) := bitLen_words hw hn hl
    have hbs := bitLen_small (toNat_lt hx)
    have HLn := hid (len64_any hx w)
    rw [hn] at HW l1
    generalize xs[n] = x at *
    generalize bitLen x.toNat = bx at *
    generalize bitLen (vn xs) = r at *
    have hz : (((n + 1 : Nat) : Int) == 0) = false := by rw [beq_eq_false_iff_ne]; omega
    clear hc hw h0 hn hne hs
    go_enter Tryd.func58, Tryd.ntmps58
    go_wp2_with fail
    refine HW.mono ?_
    rintro e w1 ⟨rfl, rfl⟩
    clear HW
    go_wp2_with fail
    refine HLn.out.mono ?_
    rintro e w2 ⟨rfl, rfl⟩
    go_wp2
    go_ret
    refine ⟨congrArg Ending.returned (congrArg (Value.int IntKind.i64) ?_), rfl⟩
    rw [HB.out]
    omega
end Go.Proofs.YtdfnehngffajiabDoor

/- WriteWord -/
namespace Go.Proofs.YtdfnehngffajiabDoor
open Go.RowKit
set_option linter.unusedVariables false

/-- The first word, 0 of none. -/
def fstN (xs : List Int) : Nat := (xs.headD 0).toNat
theorem fstN_val {xs : List Int} (hw : WF xs) (h : vn xs < 18446744073709551616) : fstN xs = vn xs := by
  cases xs with
  | nil => rfl
  | cons x r =>
    have h1 := val_vn hw
    have h2 := hw.head
    have h3 := val_nonneg hw.tail
    unfold IsW at h2
    rw [val] at h1
    unfold fstN
    simp only [List.headD_cons]
    unfold wB at h1 h2
    have : val r = 0 := by omega
    rw [this] at h1
    omega
theorem fstN_lt {xs : List Int} (hw : WF xs) : fstN xs < 18446744073709551616 := by
  unfold fstN
  cases xs with
  | nil => simp
  | cons x r => have := hw.head; unfold IsW wB at this; simp only [List.headD_cons]; omega
/-- The loop of writeWord. -/
def Wrote (w wr : World) (g : Nat) (L : List Int) (off m B n k : Nat) : Prop := RowB wr g (part L off m B n k) ∧ Touch (· = g) w wr

end Go.Proofs.YtdfnehngffajiabDoor

/- DivPure -/
namespace Go.Proofs.YtdfnehngffajiabDoor
open Go.RowKit

/-- Where the search for a digit stands: q times the divisor's head and r are u; q is not too small. -/
def DivAt (y1 y0 u d q r : Nat) : Prop := q * y1 + r = u ∧ u * 4294967296 + d < (q + 1) * (y1 * 4294967296 + y0)
/-- The digit is found. -/
def DivIs (y1 y0 u d q : Nat) : Prop := q < 4294967296 ∧ q * (y1 * 4294967296 + y0) ≤ u * 4294967296 + d ∧ u * 4294967296 + d < (q + 1) * (y1 * 4294967296 + y0)

theorem mul_two (q y1 y0 : Nat) : q * (y1 * 4294967296 + y0) = q * y1 * 4294967296 + q * y0 := by rw [Nat.mul_add, Nat.mul_assoc]
theorem over_aux {B y1 y0 u d q r : Nat} (h1 : q * y1 + r = u) (ht : r * B + d < q * y0) : u * B + d < q * (y1 * B + y0) := by
  subst h1
  rw [Nat.mul_add, ← Nat.mul_assoc, Nat.add_mul]
  omega
theorem stop_aux {B y1 y0 u d q r : Nat} (h1 : q * y1 + r = u) (ht : q * y0 ≤ r * B + d) : q * (y1 * B + y0) ≤ u * B + d := by
  subst h1
  rw [Nat.mul_add, ← Nat.mul_assoc, Nat.add_mul]
  omega
theorem DivAt.start {y1 y0 u d : Nat} (hy : 0 < y1) (hd : d < 4294967296) : DivAt y1 y0 u d (u / y1) (u % y1) := by
  have h1 := Nat.div_add_mod u y1
  have h2 := Nat.mod_lt u hy
  rw [Nat.mul_comm] at h1
  refine ⟨h1, ?_⟩
  rw [mul_two, Nat.add_mul, Nat.one_mul]
  omega
theorem DivAt.over {y1 y0 u d q r : Nat} (h : DivAt y1 y0 u d q r) (hu : u < y1 * 4294967296 + y0) (hd : d < 4294967296) (ht : 4294967296 ≤ q ∨ r * 4294967296 + d < q * y0) :
    ∃ k, q = k + 1 ∧ DivAt y1 y0 u d k (r + y1) := by
  obtain ⟨h1, h2⟩ := h
  have h3 : u * 4294967296 + d < q * (y1 * 4294967296 + y0) := by
    rcases ht with ht | ht
    · obtain ⟨Y, hY⟩ : ∃ Y, Y = y1 * 4294967296 + y0 := ⟨_, rfl⟩
      rw [← hY] at hu ⊢
      have h5 := Nat.mul_le_mul_right Y ht
      obtain ⟨m, hm⟩ : ∃ m, m = q * Y := ⟨_, rfl⟩
      rw [← hm] at h5 ⊢
      have h6 : 4294967296 * (u + 1) ≤ 4294967296 * Y := Nat.mul_le_mul_left _ hu
      have h7 := Nat.le_trans h6 h5
      clear hm h2 h1 hY h5 h6 hu ht
      omega
    · exact over_aux h1 ht
  have h4 : q ≠ 0 := fun e => by subst e; simp at h3
  obtain ⟨k, rfl⟩ := Nat.exists_eq_succ_of_ne_zero h4
  refine ⟨k, rfl, ?_, h3⟩
  rw [Nat.succ_mul] at h1
  omega
theorem DivAt.small {y1 y0 u d q r : Nat} (h : DivAt y1 y0 u d q r) (hu : u < y1 * 4294967296 + y0) (hy0 : y0 < 4294967296) (hr : 4294967296 ≤ r) : DivIs y1 y0 u d q := by
  obtain ⟨h1, h2⟩ := h
  have hq : q < 4294967296 := by
    refine Nat.lt_of_not_le fun hq => ?_
    have := Nat.mul_le_mul_right y1 hq
    omega
  refine ⟨hq, stop_aux h1 ?_, h2⟩
  have h5 : q * y0 ≤ 4294967295 * 4294967295 := Nat.mul_le_mul (by omega) (by omega)
  exact Nat.le_trans h5 (by clear h5 h1 h2; omega)
theorem DivAt.stop {y1 y0 u d q r : Nat} (h : DivAt y1 y0 u d q r) (hq : q < 4294967296) (ht : q * y0 ≤ r * 4294967296 + d) : DivIs y1 y0 u d q := by
  obtain ⟨h1, h2⟩ := h
  exact ⟨hq, stop_aux h1 ht, h2⟩
theorem DivIs.rest {y1 y0 u d q : Nat} (h : DivIs y1 y0 u d q) : ∃ v, q * (y1 * 4294967296 + y0) + v = u * 4294967296 + d ∧ v < y1 * 4294967296 + y0 := by
  obtain ⟨h1, h2, h3⟩ := h
  rw [Nat.add_mul, Nat.one_mul] at h3
  exact ⟨u * 4294967296 + d - q * (y1 * 4294967296 + y0), by omega, by omega⟩
/-- Where the search starts, the head being at least 2^31. -/
theorem DivAt.mul_fits {y0 q : Nat} (hq : q < 4294967296) (hy0 : y0 < 4294967296) : q * y0 < 18446744073709551616 := by
  have : q * y0 ≤ 4294967295 * 4294967295 := Nat.mul_le_mul (by omega) (by omega)
  omega

/-- Two digits make the quotient; the divisor went up by P. -/
theorem div_two {x lo y P Y u un q1 q0 v z : Nat} (hP : 0 < P) (hY : Y = y * P) (hu : u * 18446744073709551616 + un = (x * 18446744073709551616 + lo) * P)
    (h1 : q1 * Y + v = u * 4294967296 + un / 4294967296) (h0 : q0 * Y + z = v * 4294967296 + un % 4294967296) (hz : z < Y) :
    ∃ r, z = r * P ∧ r < y ∧ (q1 * 4294967296 + q0) * y + r = x * 18446744073709551616 + lo := by
  have e1 : (q1 * 4294967296 + q0) * Y + z = (x * 18446744073709551616 + lo) * P := by
    rw [Nat.add_mul, Nat.mul_right_comm, ← hu]
    clear hu hY
    obtain ⟨a, ha⟩ : ∃ a, a = q1 * Y := ⟨_, rfl⟩
    obtain ⟨b, hb⟩ : ∃ b, b = q0 * Y := ⟨_, rfl⟩
    rw [← ha] at h1 ⊢
    rw [← hb] at h0 ⊢
    clear ha hb
    omega
  subst hY
  rw [← Nat.mul_assoc] at e1
  obtain ⟨A, hA⟩ : ∃ A, A = (q1 * 4294967296 + q0) * y := ⟨_, rfl⟩
  obtain ⟨T, hT⟩ : ∃ T, T = x * 18446744073709551616 + lo := ⟨_, rfl⟩
  rw [← hA, ← hT] at e1
  rw [← hA, ← hT]
  clear hA hT h1 h0 hu
  have hle : A ≤ T := by
    refine Nat.le_of_mul_le_mul_right (c := P) ?_ hP
    omega
  obtain ⟨r, rfl⟩ := Nat.exists_eq_add_of_le hle
  rw [Nat.add_mul] at e1
  refine ⟨r, by omega, ?_, rfl⟩
  have : z = r * P := by omega
  rw [this] at hz
  exact Nat.lt_of_mul_lt_mul_right hz
/-- How far a word may go up. -/
theorem lead_up {y : Nat} (h0 : y ≠ 0) (h : y < 2 ^ 64) : bitLen y ≤ 64 ∧ 0 < bitLen y ∧ y * 2 ^ (64 - bitLen y) < 18446744073709551616 ∧ 9223372036854775808 ≤ y * 2 ^ (64 - bitLen y) := by
  have e : bitLen y = Nat.log2 y + 1 := by unfold bitLen; rw [if_neg h0]
  have h1 : Nat.log2 y < 64 := (Nat.log2_lt h0).2 h
  have h2 : y < 2 ^ (Nat.log2 y + 1) := Nat.lt_log2_self
  have h3 : 2 ^ Nat.log2 y ≤ y := Nat.log2_self_le h0
  have h4 := Nat.mul_lt_mul_of_pos_right h2 (Nat.two_pow_pos (64 - (Nat.log2 y + 1)))
  have h5 := Nat.mul_le_mul_right (2 ^ (64 - (Nat.log2 y + 1))) h3
  rw [← Nat.pow_add, show Nat.log2 y + 1 + (64 - (Nat.log2 y + 1)) = 64 by omega] at h4
  rw [← Nat.pow_add, show Nat.log2 y + (64 - (Nat.log2 y + 1)) = 63 by omega] at h5
  rw [e]
  exact ⟨by omega, by omega, by omega, by omega⟩
end Go.Proofs.YtdfnehngffajiabDoor
