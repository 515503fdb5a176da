/-
  QWriteWordToShift: WriteWord, DivPure, Shift, joined.
-/
import Derived.Test.YtdhmbalkclbhpaaGreatDoorQDigsToByteRow
import Derived.Test.YtdhmbalkclbhpaaGreatDoorQOpenTToTwos
import Derived.Test.YtdhmbalkclbhpaaGreatDoorQCarryToMade
import Derived.Shelf.Spec.TrailingZeros

/- WriteWord -/
namespace Go.Proofs.YtdhmbalkclbhpaaGreatDoor
open Go.RowKit
set_option linter.unusedVariables false

/-- The first word, 0 of none. -/
def fstN (xs : List Int) : Nat := (xs.headD 0).toNat
theorem fstN_val {xs : List Int} (hw : WF xs) (h : vn xs < 18446744073709551616) : fstN xs = vn xs := by
  cases xs with
  | nil => rfl
  | cons x r =>
    have h1 := val_vn hw
    have h2 := hw.head
    have h3 := val_nonneg hw.tail
    unfold IsW at h2
    rw [val] at h1
    unfold fstN
    simp only [List.headD_cons]
    unfold wB at h1 h2
    have : val r = 0 := by omega
    rw [this] at h1
    omega
theorem fstN_lt {xs : List Int} (hw : WF xs) : fstN xs < 18446744073709551616 := by
  unfold fstN
  cases xs with
  | nil => simp
  | cons x r => have := hw.head; unfold IsW wB at this; simp only [List.headD_cons]; omega
/-- The loop of writeWord. -/
def Wrote (w wr : World) (g : Nat) (L : List Int) (off m B n k : Nat) : Prop := RowB wr g (part L off m B n k) ∧ Touch (· = g) w wr

set_option maxRecDepth 100000 in
set_option maxHeartbeats 3200000 in
theorem writeWord_any {w : World} {g off m B cap : Nat} {L : List Int} (hr : RowB w g L) (hm : off + m ≤ L.length) (hT : Sg w) (hg : g ≠ 1) (hB : 2 ≤ B) (hB2 : B ≤ 36) (hml : m ≤ 1073741824) (hmc : m ≤ cap) {va : Value} {xs : List Int} (ha : Sl w.heap.size w va xs) :
    Calls Tryz.prog 82 #[.slice (some ⟨g, off, none⟩) m cap, va, .int .i64 (B : Int)] w fun e w' => e = .returned (.tuple #[]) ∧ RowB w' g (wrote L off m B (fstN xs)) ∧ Touch (· = g) w w' := by
  have hlt := hid (fstN_lt ha.1)
  have HTB := hid hT
  have H0 : Hid (Wrote w w g L off m B (fstN xs) 0) := by unfold Hid Wrote; rw [part_zero]; exact ⟨hr, Touch.refl _ _⟩
  have HM := hid hm
  have hG := hid hg
  obtain ⟨hw, a, ac, rfl, hlc, hcm, hmem⟩ := ha
  cases xs with
  | nil =>
    simp only [List.length_nil] at hlc ⊢
    obtain ⟨n, hn⟩ : ∃ n, n = fstN [] := ⟨_, rfl⟩
    rw [← hn] at hlt H0 ⊢
    have e0 : ((n / B ^ 0 : Nat) : Int) = 0 := by rw [hn]; simp [fstN]
    clear hmem hn
    go_enter Tryz.func82, Tryz.ntmps82
    go_wp2_with fail

    go_loopw [6, 7] (fun x i wr => ∃ k : Nat, k ≤ m ∧ x = .int .u64 ((n / B ^ k : Nat) : Int) ∧ i = .int .i64 (((m - k : Nat) : Int) - 1) ∧ Hid (Wrote w wr g L off m B n k)) (fun _ i _ => (intOf i + 1).toNat)
    case atStart => exact ⟨0, Nat.zero_le _, by rw [e0], by simp, H0⟩
    case round =>
      clear H0
      obtain ⟨k, hk, rfl, rfl, HK⟩ := hrel
      by_cases hkm : k < m
      · obtain ⟨j, hj⟩ : ∃ j, m - k = j + 1 := ⟨m - k - 1, by omega⟩
        have ej : ((m - k : Nat) : Int) - 1 = (j : Int) := by omega
        rw [ej]
        have hjm : off + (m - (k + 1)) = off + j := by omega
        have hd : n / B ^ k % B < 36 := Nat.lt_of_lt_of_le (Nat.mod_lt _ (by omega)) hB2
        have c1 := (HTB.out.touch HK.out.2 (fun q => hG.out q.symm)) _ hd
        have hl : off + j < (part L off m B n k).length := by rw [part_len HM.out hk]; have := HM.out; omega
        have c2 := HK.out.1.cell hl
        have f2 := HK.out.1.frozen (off + j)
        have HS : Hid (Wrote w (wr.setCell ⟨g, off + j, none⟩ (.int .u8 (sgn (n / B ^ k % B)))) g L off m B n (k + 1)) := by
          unfold Hid Wrote
          refine ⟨?_, HK.out.2.setCell (.inr rfl) _ _⟩
          rw [← part_step HM.out hkm, hjm]
          exact HK.out.1.set _ _
        have hq : n / B ^ k < 18446744073709551616 := Nat.lt_of_le_of_lt (Nat.div_le_self _ _) hlt.out
        have e2 : n / B ^ (k + 1) = n / B ^ k / B := by rw [Nat.pow_succ, Nat.div_div_eq_div_mul]
        have e3 : ((n / B ^ k : Nat) : Int) % (B : Int) = ((n / B ^ k % B : Nat) : Int) := by omega
        have e4 : ((n / B ^ k : Nat) : Int) / (B : Int) = ((n / B ^ k / B : Nat) : Int) := by omega
        have hd2 : ((n / B ^ k % B : Nat) : Int) < 36 := by omega
        generalize n / B ^ k = q at *
        generalize (part L off m B n k)[off + j] = z at *
        have e5 : (q : Int).tdiv (B : Int) = ((q / B : Nat) : Int) := (Int.ofNat_tdiv q B).symm
        have e6 : (q : Int).tmod (B : Int) = ((q % B : Nat) : Int) := (Int.ofNat_tmod q B).symm
        have hq2 : q / B < 18446744073709551616 := Nat.lt_of_le_of_lt (Nat.div_le_self _ _) hq
        generalize q % B = dd at *
        generalize q / B = q2 at *
        clear HK
        go_wp2
        go_roundw
        case rel => exact ⟨k + 1, by omega, by rw [e2], by rw [show m - (k + 1) = j by omega], HS⟩
        case measure => first | (simp [intOf]; done) | (simp [intOf]; omega)
      · have ek : k = m := by omega
        have e9 : ((m - k : Nat) : Int) - 1 = -1 := by omega
        rw [e9]
        have HR : Hid (RowB wr g (wrote L off m B n)) := by unfold Hid; rw [← part_all, ← ek]; have := HK.out.1; rw [ek] at this ⊢; exact this
        have HT2 := hid HK.out.2
        clear HK
        go_wp2
        go_end0
        exact ⟨rfl, HR.out, HT2.out⟩
  | cons x r =>
    rcases hmem with e | ⟨b, o, rfl, hb, hc⟩
    · cases e
    have c0 : w.cell? ⟨b, o, none⟩ = some (.int .u64 x) := hc 0 (by simp)
    simp only [List.length_cons] at hlc ⊢
    have hx := hw.head
    obtain ⟨n, hn⟩ : ∃ n, n = fstN (x :: r) := ⟨_, rfl⟩
    rw [← hn] at hlt H0 ⊢
    have e0 : ((n / B ^ 0 : Nat) : Int) = x := by
      rw [hn]
      unfold IsW at hx
      unfold fstN
      simp only [List.headD_cons, Nat.pow_zero, Nat.div_one]
      omega
    generalize r.length = rl at *
    clear hc hn hcm hw
    go_enter Tryz.func82, Tryz.ntmps82
    go_wp2_with fail
    clear c0
    go_loopw [6, 7] (fun x i wr => ∃ k : Nat, k ≤ m ∧ x = .int .u64 ((n / B ^ k : Nat) : Int) ∧ i = .int .i64 (((m - k : Nat) : Int) - 1) ∧ Hid (Wrote w wr g L off m B n k)) (fun _ i _ => (intOf i + 1).toNat)
    case atStart => exact ⟨0, Nat.zero_le _, by rw [e0], by simp, H0⟩
    case round =>
      clear H0
      obtain ⟨k, hk, rfl, rfl, HK⟩ := hrel
      by_cases hkm : k < m
      · obtain ⟨j, hj⟩ : ∃ j, m - k = j + 1 := ⟨m - k - 1, by omega⟩
        have ej : ((m - k : Nat) : Int) - 1 = (j : Int) := by omega
        rw [ej]
        have hjm : off + (m - (k + 1)) = off + j := by omega
        have hd : n / B ^ k % B < 36 := Nat.lt_of_lt_of_le (Nat.mod_lt _ (by omega)) hB2
        have c1 := (HTB.out.touch HK.out.2 (fun q => hG.out q.symm)) _ hd
        have hl : off + j < (part L off m B n k).length := by rw [part_len HM.out hk]; have := HM.out; omega
        have c2 := HK.out.1.cell hl
        have f2 := HK.out.1.frozen (off + j)
        have HS : Hid (Wrote w (wr.setCell ⟨g, off + j, none⟩ (.int .u8 (sgn (n / B ^ k % B)))) g L off m B n (k + 1)) := by
          unfold Hid Wrote
          refine ⟨?_, HK.out.2.setCell (.inr rfl) _ _⟩
          rw [← part_step HM.out hkm, hjm]
          exact HK.out.1.set _ _
        have hq : n / B ^ k < 18446744073709551616 := Nat.lt_of_le_of_lt (Nat.div_le_self _ _) hlt.out
        have e2 : n / B ^ (k + 1) = n / B ^ k / B := by rw [Nat.pow_succ, Nat.div_div_eq_div_mul]
        have e3 : ((n / B ^ k : Nat) : Int) % (B : Int) = ((n / B ^ k % B : Nat) : Int) := by omega
        have e4 : ((n / B ^ k : Nat) : Int) / (B : Int) = ((n / B ^ k / B : Nat) : Int) := by omega
        have hd2 : ((n / B ^ k % B : Nat) : Int) < 36 := by omega
        generalize n / B ^ k = q at *
        generalize (part L off m B n k)[off + j] = z at *
        have e5 : (q : Int).tdiv (B : Int) = ((q / B : Nat) : Int) := (Int.ofNat_tdiv q B).symm
        have e6 : (q : Int).tmod (B : Int) = ((q % B : Nat) : Int) := (Int.ofNat_tmod q B).symm
        have hq2 : q / B < 18446744073709551616 := Nat.lt_of_le_of_lt (Nat.div_le_self _ _) hq
        generalize q % B = dd at *
        generalize q / B = q2 at *
        clear HK
        go_wp2
        go_roundw
        case rel => exact ⟨k + 1, by omega, by rw [e2], by rw [show m - (k + 1) = j by omega], HS⟩
        case measure => first | (simp [intOf]; done) | (simp [intOf]; omega)
      · have ek : k = m := by omega
        have e9 : ((m - k : Nat) : Int) - 1 = -1 := by omega
        rw [e9]
        have HR : Hid (RowB wr g (wrote L off m B n)) := by unfold Hid; rw [← part_all, ← ek]; have := HK.out.1; rw [ek] at this ⊢; exact this
        have HT2 := hid HK.out.2
        clear HK
        go_wp2
        go_end0
        exact ⟨rfl, HR.out, HT2.out⟩
end Go.Proofs.YtdhmbalkclbhpaaGreatDoor

/- DivPure -/
namespace Go.Proofs.YtdhmbalkclbhpaaGreatDoor
open Go.RowKit

/-- Where the search for a digit stands: q times the divisor's head and r are u; q is not too small. -/
def DivAt (y1 y0 u d q r : Nat) : Prop := q * y1 + r = u ∧ u * 4294967296 + d < (q + 1) * (y1 * 4294967296 + y0)
/-- The digit is found. -/
def DivIs (y1 y0 u d q : Nat) : Prop := q < 4294967296 ∧ q * (y1 * 4294967296 + y0) ≤ u * 4294967296 + d ∧ u * 4294967296 + d < (q + 1) * (y1 * 4294967296 + y0)

theorem mul_two (q y1 y0 : Nat) : q * (y1 * 4294967296 + y0) = q * y1 * 4294967296 + q * y0 := by rw [Nat.mul_add, Nat.mul_assoc]
theorem over_aux {B y1 y0 u d q r : Nat} (h1 : q * y1 + r = u) (ht : r * B + d < q * y0) : u * B + d < q * (y1 * B + y0) := by
  subst h1
  rw [Nat.mul_add, ← Nat.mul_assoc, Nat.add_mul]
  omega
theorem stop_aux {B y1 y0 u d q r : Nat} (h1 : q * y1 + r = u) (ht : q * y0 ≤ r * B + d) : q * (y1 * B + y0) ≤ u * B + d := by
  subst h1
  rw [Nat.mul_add, ← Nat.mul_assoc, Nat.add_mul]
  omega
theorem DivAt.start {y1 y0 u d : Nat} (hy : 0 < y1) (hd : d < 4294967296) : DivAt y1 y0 u d (u / y1) (u % y1) := by
  have h1 := Nat.div_add_mod u y1
  have h2 := Nat.mod_lt u hy
  rw [Nat.mul_comm] at h1
  refine ⟨h1, ?_⟩
  rw [mul_two, Nat.add_mul, Nat.one_mul]
  omega
theorem DivAt.over {y1 y0 u d q r : Nat} (h : DivAt y1 y0 u d q r) (hu : u < y1 * 4294967296 + y0) (hd : d < 4294967296) (ht : 4294967296 ≤ q ∨ r * 4294967296 + d < q * y0) :
    ∃ k, q = k + 1 ∧ DivAt y1 y0 u d k (r + y1) := by
  obtain ⟨h1, h2⟩ := h
  have h3 : u * 4294967296 + d < q * (y1 * 4294967296 + y0) := by
    rcases ht with ht | ht
    · obtain ⟨Y, hY⟩ : ∃ Y, Y = y1 * 4294967296 + y0 := ⟨_, rfl⟩
      rw [← hY] at hu ⊢
      have h5 := Nat.mul_le_mul_right Y ht
      obtain ⟨m, hm⟩ : ∃ m, m = q * Y := ⟨_, rfl⟩
      rw [← hm] at h5 ⊢
      have h6 : 4294967296 * (u + 1) ≤ 4294967296 * Y := Nat.mul_le_mul_left _ hu
      have h7 := Nat.le_trans h6 h5
      clear hm h2 h1 hY h5 h6 hu ht
      omega
    · exact over_aux h1 ht
  have h4 : q ≠ 0 := fun e => by subst e; simp at h3
  obtain ⟨k, rfl⟩ := Nat.exists_eq_succ_of_ne_zero h4
  refine ⟨k, rfl, ?_, h3⟩
  rw [Nat.succ_mul] at h1
  omega
theorem DivAt.small {y1 y0 u d q r : Nat} (h : DivAt y1 y0 u d q r) (hu : u < y1 * 4294967296 + y0) (hy0 : y0 < 4294967296) (hr : 4294967296 ≤ r) : DivIs y1 y0 u d q := by
  obtain ⟨h1, h2⟩ := h
  have hq : q < 4294967296 := by
    refine Nat.lt_of_not_le fun hq => ?_
    have := Nat.mul_le_mul_right y1 hq
    omega
  refine ⟨hq, stop_aux h1 ?_, h2⟩
  have h5 : q * y0 ≤ 4294967295 * 4294967295 := Nat.mul_le_mul (by omega) (by omega)
  exact Nat.le_trans h5 (by clear h5 h1 h2; omega)
theorem DivAt.stop {y1 y0 u d q r : Nat} (h : DivAt y1 y0 u d q r) (hq : q < 4294967296) (ht : q * y0 ≤ r * 4294967296 + d) : DivIs y1 y0 u d q := by
  obtain ⟨h1, h2⟩ := h
  exact ⟨hq, stop_aux h1 ht, h2⟩
theorem DivIs.rest {y1 y0 u d q : Nat} (h : DivIs y1 y0 u d q) : ∃ v, q * (y1 * 4294967296 + y0) + v = u * 4294967296 + d ∧ v < y1 * 4294967296 + y0 := by
  obtain ⟨h1, h2, h3⟩ := h
  rw [Nat.add_mul, Nat.one_mul] at h3
  exact ⟨u * 4294967296 + d - q * (y1 * 4294967296 + y0), by omega, by omega⟩
/-- Where the search starts, the head being at least 2^31. -/
theorem DivAt.mul_fits {y0 q : Nat} (hq : q < 4294967296) (hy0 : y0 < 4294967296) : q * y0 < 18446744073709551616 := by
  have : q * y0 ≤ 4294967295 * 4294967295 := Nat.mul_le_mul (by omega) (by omega)
  omega

/-- Two digits make the quotient; the divisor went up by P. -/
theorem div_two {x lo y P Y u un q1 q0 v z : Nat} (hP : 0 < P) (hY : Y = y * P) (hu : u * 18446744073709551616 + un = (x * 18446744073709551616 + lo) * P)
    (h1 : q1 * Y + v = u * 4294967296 + un / 4294967296) (h0 : q0 * Y + z = v * 4294967296 + un % 4294967296) (hz : z < Y) :
    ∃ r, z = r * P ∧ r < y ∧ (q1 * 4294967296 + q0) * y + r = x * 18446744073709551616 + lo := by
  have e1 : (q1 * 4294967296 + q0) * Y + z = (x * 18446744073709551616 + lo) * P := by
    rw [Nat.add_mul, Nat.mul_right_comm, ← hu]
    clear hu hY
    obtain ⟨a, ha⟩ : ∃ a, a = q1 * Y := ⟨_, rfl⟩
    obtain ⟨b, hb⟩ : ∃ b, b = q0 * Y := ⟨_, rfl⟩
    rw [← ha] at h1 ⊢
    rw [← hb] at h0 ⊢
    clear ha hb
    omega
  subst hY
  rw [← Nat.mul_assoc] at e1
  obtain ⟨A, hA⟩ : ∃ A, A = (q1 * 4294967296 + q0) * y := ⟨_, rfl⟩
  obtain ⟨T, hT⟩ : ∃ T, T = x * 18446744073709551616 + lo := ⟨_, rfl⟩
  rw [← hA, ← hT] at e1
  rw [← hA, ← hT]
  clear hA hT h1 h0 hu
  have hle : A ≤ T := by
    refine Nat.le_of_mul_le_mul_right (c := P) ?_ hP
    omega
  obtain ⟨r, rfl⟩ := Nat.exists_eq_add_of_le hle
  rw [Nat.add_mul] at e1
  refine ⟨r, by omega, ?_, rfl⟩
  have : z = r * P := by omega
  rw [this] at hz
  exact Nat.lt_of_mul_lt_mul_right hz
/-- How far a word may go up. -/
theorem lead_up {y : Nat} (h0 : y ≠ 0) (h : y < 2 ^ 64) : bitLen y ≤ 64 ∧ 0 < bitLen y ∧ y * 2 ^ (64 - bitLen y) < 18446744073709551616 ∧ 9223372036854775808 ≤ y * 2 ^ (64 - bitLen y) := by
  have e : bitLen y = Nat.log2 y + 1 := by unfold bitLen; rw [if_neg h0]
  have h1 : Nat.log2 y < 64 := (Nat.log2_lt h0).2 h
  have h2 : y < 2 ^ (Nat.log2 y + 1) := Nat.lt_log2_self
  have h3 : 2 ^ Nat.log2 y ≤ y := Nat.log2_self_le h0
  have h4 := Nat.mul_lt_mul_of_pos_right h2 (Nat.two_pow_pos (64 - (Nat.log2 y + 1)))
  have h5 := Nat.mul_le_mul_right (2 ^ (64 - (Nat.log2 y + 1))) h3
  rw [← Nat.pow_add, show Nat.log2 y + 1 + (64 - (Nat.log2 y + 1)) = 64 by omega] at h4
  rw [← Nat.pow_add, show Nat.log2 y + (64 - (Nat.log2 y + 1)) = 63 by omega] at h5
  rw [e]
  exact ⟨by omega, by omega, by omega, by omega⟩
end Go.Proofs.YtdhmbalkclbhpaaGreatDoor

/- Shift -/
namespace Go.Proofs.YtdhmbalkclbhpaaGreatDoor
open Go.RowKit

theorem pw_pow : ∀ k, pw k = 2 ^ (64 * k)
  | 0 => by simp [pw]
  | k + 1 => by rw [pw, pw_pow k, show 64 * (k + 1) = 64 + 64 * k by omega, Int.pow_add]; rfl
theorem pw_add (a b : Nat) : pw (a + b) = pw a * pw b := by rw [pw_pow, pw_pow, pw_pow, Nat.mul_add, Int.pow_add]
theorem two_split (n : Nat) : (2 : Int) ^ n = pw (n / 64) * 2 ^ (n % 64) := by rw [pw_pow, ← Int.pow_add, show 64 * (n / 64) + n % 64 = n by omega]

theorem bits_or_nat (a b : Nat) (ha : a < 18446744073709551616) (hb : b < 18446744073709551616) : bits .or .u64 (a : Int) (b : Int) = ((a ||| b : Nat) : Int) := by
  have hx : a ||| b < 2 ^ 64 := Nat.or_lt_two_pow ha hb
  have h1 : (BitVec.ofInt 64 (a : Int)).toNat = a := by
    rw [BitVec.ofInt_natCast, BitVec.toNat_ofNat]; exact Nat.mod_eq_of_lt (by omega)
  have h2 : (BitVec.ofInt 64 (b : Int)).toNat = b := by
    rw [BitVec.ofInt_natCast, BitVec.toNat_ofNat]; exact Nat.mod_eq_of_lt (by omega)
  show IntKind.u64.wrap ((BitVec.ofInt 64 (a : Int) ||| BitVec.ofInt 64 (b : Int)).toNat : Int) = _
  rw [BitVec.toNat_or, h1, h2, IntKind.wrap_u64]
  omega
theorem pow_split {p : Nat} (hp : p ≤ 64) : 2 ^ p * 2 ^ (64 - p) = 18446744073709551616 := by rw [← Nat.pow_add, show p + (64 - p) = 64 by omega]
theorem cast_pow (p : Nat) : (2 : Int) ^ p = ((2 ^ p : Nat) : Int) := by simp

/-- A word to the left, the spill of the one below it put in. -/
theorem shl_word {x c : Int} {p : Nat} (hx : IsW x) (hp : p < 64) (hc0 : 0 ≤ c) (hc : c < 2 ^ p) :
    IsW (bits BinOp.or IntKind.u64 (IntKind.u64.wrap (x * 2 ^ p)) c) ∧ 0 ≤ x / 2 ^ (64 - p) ∧ x / 2 ^ (64 - p) < 2 ^ p ∧
      bits BinOp.or IntKind.u64 (IntKind.u64.wrap (x * 2 ^ p)) c + wB * (x / 2 ^ (64 - p)) = 0 + x * 2 ^ p + c := by
  have hl := toNat_lt hx
  obtain ⟨X, rfl⟩ := Int.eq_ofNat_of_zero_le hx.1
  obtain ⟨C, rfl⟩ := Int.eq_ofNat_of_zero_le hc0
  simp only [Int.toNat_natCast] at hl
  have hs := pow_split (p := p) (by omega)
  have hpp := Nat.two_pow_pos p
  have hqp := Nat.two_pow_pos (64 - p)
  rw [cast_pow p, cast_pow (64 - p)] at *
  generalize hP : 2 ^ p = P at *
  generalize hQ : 2 ^ (64 - p) = Q at *
  have hC : C < P := by omega
  have hm : X * P % 18446744073709551616 = P * (X % Q) := by rw [← hs, Nat.mul_comm X P, Nat.mul_mod_mul_left]
  have hXQ : X % Q < Q := Nat.mod_lt _ hqp
  have hle : P * (X % Q) + P ≤ 18446744073709551616 := by
    rw [← hs, ← Nat.mul_succ]; exact Nat.mul_le_mul_left _ hXQ
  have hw : IntKind.u64.wrap ((X : Int) * (P : Int)) = ((P * (X % Q) : Nat) : Int) := by
    rw [IntKind.wrap_u64, ← hm]; simp
  have ho : P * (X % Q) ||| C = P * (X % Q) + C := by
    subst hP; exact (Nat.two_pow_add_eq_or_of_lt (by omega) _).symm
  have hd : (X : Int) / (Q : Int) = ((X / Q : Nat) : Int) := by simp
  rw [hw, bits_or_nat _ _ (by omega) (by omega), ho, hd]
  have hXd : X / Q < P := by rw [Nat.div_lt_iff_lt_mul hqp, hs]; exact hl
  have hmain : P * (X % Q) + 18446744073709551616 * (X / Q) = X * P := by
    have := Nat.mod_add_div X Q
    rw [← hs, Nat.mul_assoc, ← Nat.mul_add, this, Nat.mul_comm]
  refine ⟨by unfold IsW wB; omega, by omega, by omega, ?_⟩
  have : ((P * (X % Q) + 18446744073709551616 * (X / Q) : Nat) : Int) = ((X * P : Nat) : Int) := by rw [hmain]
  unfold wB
  rw [← Int.natCast_mul]
  omega
/-- A word to the right, the low digits of the one above it put in. -/
theorem shr_word {x y : Int} {p : Nat} (hx : IsW x) (hy : IsW y) (hp : p < 64) :
    IsW (bits BinOp.or IntKind.u64 (x / 2 ^ p) (IntKind.u64.wrap (y * 2 ^ (64 - p)))) ∧
      2 ^ p * bits BinOp.or IntKind.u64 (x / 2 ^ p) (IntKind.u64.wrap (y * 2 ^ (64 - p))) = x - x % 2 ^ p + wB * (y % 2 ^ p) := by
  have hl := toNat_lt hx
  have hl' := toNat_lt hy
  obtain ⟨X, rfl⟩ := Int.eq_ofNat_of_zero_le hx.1
  obtain ⟨Y, rfl⟩ := Int.eq_ofNat_of_zero_le hy.1
  simp only [Int.toNat_natCast] at hl hl'
  have hs := pow_split (p := p) (by omega)
  have hpp := Nat.two_pow_pos p
  have hqp := Nat.two_pow_pos (64 - p)
  rw [cast_pow p, cast_pow (64 - p)] at *
  generalize hP : 2 ^ p = P at *
  generalize hQ : 2 ^ (64 - p) = Q at *
  have hm : Y * Q % 18446744073709551616 = Q * (Y % P) := by rw [← hs, Nat.mul_comm P Q, Nat.mul_comm Y Q, Nat.mul_mod_mul_left]
  have hYP : Y % P < P := Nat.mod_lt _ hpp
  have hle : Q * (Y % P) + Q ≤ 18446744073709551616 := by
    rw [← hs, Nat.mul_comm P Q, ← Nat.mul_succ]; exact Nat.mul_le_mul_left _ hYP
  have hw : IntKind.u64.wrap ((Y : Int) * (Q : Int)) = ((Q * (Y % P) : Nat) : Int) := by
    rw [IntKind.wrap_u64, ← hm]; simp
  have hXd : X / P < Q := by rw [Nat.div_lt_iff_lt_mul hpp, Nat.mul_comm, hs]; exact hl
  have ho : X / P ||| Q * (Y % P) = Q * (Y % P) + X / P := by
    rw [Nat.or_comm]; subst hQ; exact (Nat.two_pow_add_eq_or_of_lt hXd _).symm
  have hd : (X : Int) / (P : Int) = ((X / P : Nat) : Int) := by simp
  rw [hw, hd, bits_or_nat _ _ (by omega) (by omega), ho]
  refine ⟨by unfold IsW wB; omega, ?_⟩
  have h1 := Nat.div_add_mod X P
  have h2 : P * (Q * (Y % P) + X / P) = 18446744073709551616 * (Y % P) + P * (X / P) := by rw [Nat.mul_add, ← Nat.mul_assoc, hs]
  have h3 : (X : Int) % (P : Int) = ((X % P : Nat) : Int) := by simp
  have h4 : (Y : Int) % (P : Int) = ((Y % P : Nat) : Int) := by simp
  rw [h3, h4, ← Int.natCast_mul, h2]
  unfold wB
  omega

/-- A slice that a call made itself: nil, or at the head of a row from block B on, its spare room in that row. -/
def Own (B : Nat) (w : World) (v : Value) (zs : List Int) : Prop :=
  WF zs ∧ ((v = .slice none 0 0 ∧ zs = []) ∨ ∃ g r, B ≤ g ∧ zs.length + r.length ≤ 35184372088832 ∧ v = .slice (some ⟨g, 0, none⟩) zs.length (zs.length + r.length) ∧ Row w g (ws zs ++ r))
theorem Own.form {B : Nat} {w : World} {v : Value} {zs : List Int} (h : Own B w v zs) : ∃ a cap, v = .slice a zs.length cap := by
  obtain ⟨_, ⟨h1, h2⟩ | ⟨g, r, _, _, h1, _⟩⟩ := h
  · subst h2; exact ⟨none, 0, h1⟩
  · exact ⟨_, _, h1⟩
theorem Own.sl {B : Nat} {w : World} {v : Value} {zs : List Int} (h : Own B w v zs) : Sl w.heap.size w v zs := by
  obtain ⟨hw, ⟨h1, h2⟩ | ⟨g, r, h1, h2, h3, h4⟩⟩ := h
  · subst h1 h2; exact Sl.nilAt w
  · subst h3
    exact h4.sl hw (by omega) h2 h4.lt
end Go.Proofs.YtdhmbalkclbhpaaGreatDoor
