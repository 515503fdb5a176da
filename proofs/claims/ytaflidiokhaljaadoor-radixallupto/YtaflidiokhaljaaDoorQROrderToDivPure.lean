/-
  QROrderToDivPure: ROrder, RLeast, WriteWord, DivPure, joined.
-/
import Derived.Test.YtaflidiokhaljaaDoorQSlIntsToRef
import Derived.Test.YtaflidiokhaljaaDoorQJoin
import Derived.Test.YtaflidiokhaljaaDoorQByteRowToOpenT

/- ROrder -/
namespace Go.Proofs.YtaflidiokhaljaaDoor
open Go.RowKit

end Go.Proofs.YtaflidiokhaljaaDoor

/- RLeast -/
namespace Go.Proofs.YtaflidiokhaljaaDoor
open Go.RowKit

end Go.Proofs.YtaflidiokhaljaaDoor

/- WriteWord -/
namespace Go.Proofs.YtaflidiokhaljaaDoor
open Go.RowKit
set_option linter.unusedVariables false

/-- The first word, 0 of none. -/
def fstN (xs : List Int) : Nat := (xs.headD 0).toNat
theorem fstN_val {xs : List Int} (hw : WF xs) (h : vn xs < 18446744073709551616) : fstN xs = vn xs := by
  cases xs with
  | nil => rfl
  | cons x r =>
    have h1 := val_vn hw
    have h2 := hw.head
    have h3 := val_nonneg hw.tail
    unfold IsW at h2
    rw [val] at h1
    unfold fstN
    simp only [List.headD_cons]
    unfold wB at h1 h2
    have : val r = 0 := by omega
    rw [this] at h1
    omega
theorem fstN_lt {xs : List Int} (hw : WF xs) : fstN xs < 18446744073709551616 := by
  unfold fstN
  cases xs with
  | nil => simp
  | cons x r => have := hw.head; unfold IsW wB at this; simp only [List.headD_cons]; omega
/-- The loop of writeWord. -/
def Wrote (w wr : World) (g : Nat) (L : List Int) (off m B n k : Nat) : Prop := RowB wr g (part L off m B n k) ∧ Touch (· = g) w wr

set_option maxRecDepth 100000 in
set_option maxHeartbeats 3200000 in
theorem writeWord_any {w : World} {g off m B cap : Nat} {L : List Int} (hr : RowB w g L) (hm : off + m ≤ L.length) (hT : Sg w) (hg : g ≠ 0) (hB : 2 ≤ B) (hB2 : B ≤ 36) (hml : m ≤ 1073741824) (hmc : m ≤ cap) {va : Value} {xs : List Int} (ha : Sl w.heap.size w va xs) :
    Calls Tryd.prog 42 #[.slice (some ⟨g, off, none⟩) m cap, va, .int .i64 (B : Int)] w fun e w' => e = .returned (.tuple #[]) ∧ RowB w' g (wrote L off m B (fstN xs)) ∧ Touch (· = g) w w' := by
  have hlt := hid (fstN_lt ha.1)
  have HTB := hid hT
  have H0 : Hid (Wrote w w g L off m B (fstN xs) 0) := by unfold Hid Wrote; rw [part_zero]; exact ⟨hr, Touch.refl _ _⟩
  have HM := hid hm
  have hG := hid hg
  obtain ⟨hw, a, ac, rfl, hlc, hcm, hmem⟩ := ha
  cases xs with
  | nil =>
    simp only [List.length_nil] at hlc ⊢
    obtain ⟨n, hn⟩ : ∃ n, n = fstN [] := ⟨_, rfl⟩
    rw [← hn] at hlt H0 ⊢
    have e0 : ((n / B ^ 0 : Nat) : Int) = 0 := by rw [hn]; simp [fstN]
    clear hmem hn
    go_enter Tryd.func42, Tryd.ntmps42
    go_wp2_with fail

    go_loopw [6, 7] (fun x i wr => ∃ k : Nat, k ≤ m ∧ x = .int .u64 ((n / B ^ k : Nat) : Int) ∧ i = .int .i64 (((m - k : Nat) : Int) - 1) ∧ Hid (Wrote w wr g L off m B n k)) (fun _ i _ => (intOf i + 1).toNat)
    case atStart => exact ⟨0, Nat.zero_le _, by rw [e0], by simp, H0⟩
    case round =>
      clear H0
      obtain ⟨k, hk, rfl, rfl, HK⟩ := hrel
      by_cases hkm : k < m
      · obtain ⟨j, hj⟩ : ∃ j, m - k = j + 1 := ⟨m - k - 1, by omega⟩
        have ej : ((m - k : Nat) : Int) - 1 = (j : Int) := by omega
        rw [ej]
        have hjm : off + (m - (k + 1)) = off + j := by omega
        have hd : n / B ^ k % B < 36 := Nat.lt_of_lt_of_le (Nat.mod_lt _ (by omega)) hB2
        have c1 := (HTB.out.touch HK.out.2 (fun q => hG.out q.symm)) _ hd
        have hl : off + j < (part L off m B n k).length := by rw [part_len HM.out hk]; have := HM.out; omega
        have c2 := HK.out.1.cell hl
        have f2 := HK.out.1.frozen (off + j)
        have HS : Hid (Wrote w (wr.setCell ⟨g, off + j, none⟩ (.int .u8 (sgn (n / B ^ k % B)))) g L off m B n (k + 1)) := by
          unfold Hid Wrote
          refine ⟨?_, HK.out.2.setCell (.inr rfl) _ _⟩
          rw [← part_step HM.out hkm, hjm]
          exact HK.out.1.set _ _
        have hq : n / B ^ k < 18446744073709551616 := Nat.lt_of_le_of_lt (Nat.div_le_self _ _) hlt.out
        have e2 : n / B ^ (k + 1) = n / B ^ k / B := by rw [Nat.pow_succ, Nat.div_div_eq_div_mul]
        have e3 : ((n / B ^ k : Nat) : Int) % (B : Int) = ((n / B ^ k % B : Nat) : Int) := by omega
        have e4 : ((n / B ^ k : Nat) : Int) / (B : Int) = ((n / B ^ k / B : Nat) : Int) := by omega
        have hd2 : ((n / B ^ k % B : Nat) : Int) < 36 := by omega
        generalize n / B ^ k = q at *
        generalize (part L off m B n k)[off + j] = z at *
        have e5 : (q : Int).tdiv (B : Int) = ((q / B : Nat) : Int) := (Int.ofNat_tdiv q B).symm
        have e6 : (q : Int).tmod (B : Int) = ((q % B : Nat) : Int) := (Int.ofNat_tmod q B).symm
        have hq2 : q / B < 18446744073709551616 := Nat.lt_of_le_of_lt (Nat.div_le_self _ _) hq
        generalize q % B = dd at *
        generalize q / B = q2 at *
        clear HK
        go_wp2
        go_roundw
        case rel => exact ⟨k + 1, by omega, by rw [e2], by rw [show m - (k + 1) = j by omega], HS⟩
        case measure => first | (simp [intOf]; done) | (simp [intOf]; omega)
      · have ek : k = m := by omega
        have e9 : ((m - k : Nat) : Int) - 1 = -1 := by omega
        rw [e9]
        have HR : Hid (RowB wr g (wrote L off m B n)) := by unfold Hid; rw [← part_all, ← ek]; have := HK.out.1; rw [ek] at this ⊢; exact this
        have HT2 := hid HK.out.2
        clear HK
        go_wp2
        go_end0
        exact ⟨rfl, HR.out, HT2.out⟩
  | cons x r =>
    rcases hmem with e | ⟨b, o, rfl, hb, hc⟩
    · cases e
    have c0 : w.cell? ⟨b, o, none⟩ = some (.int .u64 x) := hc 0 (by simp)
    simp only [List.length_cons] at hlc ⊢
    have hx := hw.head
    obtain ⟨n, hn⟩ : ∃ n, n = fstN (x :: r) := ⟨_, rfl⟩
    rw [← hn] at hlt H0 ⊢
    have e0 : ((n / B ^ 0 : Nat) : Int) = x := by
      rw [hn]
      unfold IsW at hx
      unfold fstN
      simp only [List.headD_cons, Nat.pow_zero, Nat.div_one]
      omega
    generalize r.length = rl at *
    clear hc hn hcm hw
    go_enter Tryd.func42, Tryd.ntmps42
    go_wp2_with fail
    clear c0
    go_loopw [6, 7] (fun x i wr => ∃ k : Nat, k ≤ m ∧ x = .int .u64 ((n / B ^ k : Nat) : Int) ∧ i = .int .i64 (((m - k : Nat) : Int) - 1) ∧ Hid (Wrote w wr g L off m B n k)) (fun _ i _ => (intOf i + 1).toNat)
    case atStart => exact ⟨0, Nat.zero_le _, by rw [e0], by simp, H0⟩
    case round =>
      clear H0
      obtain ⟨k, hk, rfl, rfl, HK⟩ := hrel
      by_cases hkm : k < m
      · obtain ⟨j, hj⟩ : ∃ j, m - k = j + 1 := ⟨m - k - 1, by omega⟩
        have ej : ((m - k : Nat) : Int) - 1 = (j : Int) := by omega
        rw [ej]
        have hjm : off + (m - (k + 1)) = off + j := by omega
        have hd : n / B ^ k % B < 36 := Nat.lt_of_lt_of_le (Nat.mod_lt _ (by omega)) hB2
        have c1 := (HTB.out.touch HK.out.2 (fun q => hG.out q.symm)) _ hd
        have hl : off + j < (part L off m B n k).length := by rw [part_len HM.out hk]; have := HM.out; omega
        have c2 := HK.out.1.cell hl
        have f2 := HK.out.1.frozen (off + j)
        have HS : Hid (Wrote w (wr.setCell ⟨g, off + j, none⟩ (.int .u8 (sgn (n / B ^ k % B)))) g L off m B n (k + 1)) := by
          unfold Hid Wrote
          refine ⟨?_, HK.out.2.setCell (.inr rfl) _ _⟩
          rw [← part_step HM.out hkm, hjm]
          exact HK.out.1.set _ _
        have hq : n / B ^ k < 18446744073709551616 := Nat.lt_of_le_of_lt (Nat.div_le_self _ _) hlt.out
        have e2 : n / B ^ (k + 1) = n / B ^ k / B := by rw [Nat.pow_succ, Nat.div_div_eq_div_mul]
        have e3 : ((n / B ^ k : Nat) : Int) % (B : Int) = ((n / B ^ k % B : Nat) : Int) := by omega
        have e4 : ((n / B ^ k : Nat) : Int) / (B : Int) = ((n / B ^ k / B : Nat) : Int) := by omega
        have hd2 : ((n / B ^ k % B : Nat) : Int) < 36 := by omega
        generalize n / B ^ k = q at *
        generalize (part L off m B n k)[off + j] = z at *
        have e5 : (q : Int).tdiv (B : Int) = ((q / B : Nat) : Int) := (Int.ofNat_tdiv q B).symm
        have e6 : (q : Int).tmod (B : Int) = ((q % B : Nat) : Int) := (Int.ofNat_tmod q B).symm
        have hq2 : q / B < 18446744073709551616 := Nat.lt_of_le_of_lt (Nat.div_le_self _ _) hq
        generalize q % B = dd at *
        generalize q / B = q2 at *
        clear HK
        go_wp2
        go_roundw
        case rel => exact ⟨k + 1, by omega, by rw [e2], by rw [show m - (k + 1) = j by omega], HS⟩
        case measure => first | (simp [intOf]; done) | (simp [intOf]; omega)
      · have ek : k = m := by omega
        have e9 : ((m - k : Nat) : Int) - 1 = -1 := by omega
        rw [e9]
        have HR : Hid (RowB wr g (wrote L off m B n)) := by unfold Hid; rw [← part_all, ← ek]; have := HK.out.1; rw [ek] at this ⊢; exact this
        have HT2 := hid HK.out.2
        clear HK
        go_wp2
        go_end0
        exact ⟨rfl, HR.out, HT2.out⟩
end Go.Proofs.YtaflidiokhaljaaDoor

/- DivPure -/
namespace Go.Proofs.YtaflidiokhaljaaDoor
open Go.RowKit

/-- Where the search for a digit stands: q times the divisor's head and r are u; q is not too small. -/
def DivAt (y1 y0 u d q r : Nat) : Prop := q * y1 + r = u ∧ u * 4294967296 + d < (q + 1) * (y1 * 4294967296 + y0)
/-- The digit is found. -/
def DivIs (y1 y0 u d q : Nat) : Prop := q < 4294967296 ∧ q * (y1 * 4294967296 + y0) ≤ u * 4294967296 + d ∧ u * 4294967296 + d < (q + 1) * (y1 * 4294967296 + y0)

theorem mul_two (q y1 y0 : Nat) : q * (y1 * 4294967296 + y0) = q * y1 * 4294967296 + q * y0 := by rw [Nat.mul_add, Nat.mul_assoc]
theorem over_aux {B y1 y0 u d q r : Nat} (h1 : q * y1 + r = u) (ht : r * B + d < q * y0) : u * B + d < q * (y1 * B + y0) := by
  subst h1
  rw [Nat.mul_add, ← Nat.mul_assoc, Nat.add_mul]
  omega
theorem stop_aux {B y1 y0 u d q r : Nat} (h1 : q * y1 + r = u) (ht : q * y0 ≤ r * B + d) : q * (y1 * B + y0) ≤ u * B + d := by
  subst h1
  rw [Nat.mul_add, ← Nat.mul_assoc, Nat.add_mul]
  omega
theorem DivAt.start {y1 y0 u d : Nat} (hy : 0 < y1) (hd : d < 4294967296) : DivAt y1 y0 u d (u / y1) (u % y1) := by
  have h1 := Nat.div_add_mod u y1
  have h2 := Nat.mod_lt u hy
  rw [Nat.mul_comm] at h1
  refine ⟨h1, ?_⟩
  rw [mul_two, Nat.add_mul, Nat.one_mul]
  omega
theorem DivAt.over {y1 y0 u d q r : Nat} (h : DivAt y1 y0 u d q r) (hu : u < y1 * 4294967296 + y0) (hd : d < 4294967296) (ht : 4294967296 ≤ q ∨ r * 4294967296 + d < q * y0) :
    ∃ k, q = k + 1 ∧ DivAt y1 y0 u d k (r + y1) := by
  obtain ⟨h1, h2⟩ := h
  have h3 : u * 4294967296 + d < q * (y1 * 4294967296 + y0) := by
    rcases ht with ht | ht
    · obtain ⟨Y, hY⟩ : ∃ Y, Y = y1 * 4294967296 + y0 := ⟨_, rfl⟩
      rw [← hY] at hu ⊢
      have h5 := Nat.mul_le_mul_right Y ht
      obtain ⟨m, hm⟩ : ∃ m, m = q * Y := ⟨_, rfl⟩
      rw [← hm] at h5 ⊢
      have h6 : 4294967296 * (u + 1) ≤ 4294967296 * Y := Nat.mul_le_mul_left _ hu
      have h7 := Nat.le_trans h6 h5
      clear hm h2 h1 hY h5 h6 hu ht
      omega
    · exact over_aux h1 ht
  have h4 : q ≠ 0 := fun e => by subst e; simp at h3
  obtain ⟨k, rfl⟩ := Nat.exists_eq_succ_of_ne_zero h4
  refine ⟨k, rfl, ?_, h3⟩
  rw [Nat.succ_mul] at h1
  omega
theorem DivAt.small {y1 y0 u d q r : Nat} (h : DivAt y1 y0 u d q r) (hu : u < y1 * 4294967296 + y0) (hy0 : y0 < 4294967296) (hr : 4294967296 ≤ r) : DivIs y1 y0 u d q := by
  obtain ⟨h1, h2⟩ := h
  have hq : q < 4294967296 := by
    refine Nat.lt_of_not_le fun hq => ?_
    have := Nat.mul_le_mul_right y1 hq
    omega
  refine ⟨hq, stop_aux h1 ?_, h2⟩
  have h5 : q * y0 ≤ 4294967295 * 4294967295 := Nat.mul_le_mul (by omega) (by omega)
  exact Nat.le_trans h5 (by clear h5 h1 h2; omega)
theorem DivAt.stop {y1 y0 u d q r : Nat} (h : DivAt y1 y0 u d q r) (hq : q < 4294967296) (ht : q * y0 ≤ r * 4294967296 + d) : DivIs y1 y0 u d q := by
  obtain ⟨h1, h2⟩ := h
  exact ⟨hq, stop_aux h1 ht, h2⟩
theorem DivIs.rest {y1 y0 u d q : Nat} (h : DivIs y1 y0 u d q) : ∃ v, q * (y1 * 4294967296 + y0) + v = u * 4294967296 + d ∧ v < y1 * 4294967296 + y0 := by
  obtain ⟨h1, h2, h3⟩ := h
  rw [Nat.add_mul, Nat.one_mul] at h3
  exact ⟨u * 4294967296 + d - q * (y1 * 4294967296 + y0), by omega, by omega⟩
/-- Where the search starts, the head being at least 2^31. -/
theorem DivAt.mul_fits {y0 q : Nat} (hq : q < 4294967296) (hy0 : y0 < 4294967296) : q * y0 < 18446744073709551616 := by
  have : q * y0 ≤ 4294967295 * 4294967295 := Nat.mul_le_mul (by omega) (by omega)
  omega

/-- Two digits make the quotient; the divisor went up by P. -/
theorem div_two {x lo y P Y u un q1 q0 v z : Nat} (hP : 0 < P) (hY : Y = y * P) (hu : u * 18446744073709551616 + un = (x * 18446744073709551616 + lo) * P)
    (h1 : q1 * Y + v = u * 4294967296 + un / 4294967296) (h0 : q0 * Y + z = v * 4294967296 + un % 4294967296) (hz : z < Y) :
    ∃ r, z = r * P ∧ r < y ∧ (q1 * 4294967296 + q0) * y + r = x * 18446744073709551616 + lo := by
  have e1 : (q1 * 4294967296 + q0) * Y + z = (x * 18446744073709551616 + lo) * P := by
    rw [Nat.add_mul, Nat.mul_right_comm, ← hu]
    clear hu hY
    obtain ⟨a, ha⟩ : ∃ a, a = q1 * Y := ⟨_, rfl⟩
    obtain ⟨b, hb⟩ : ∃ b, b = q0 * Y := ⟨_, rfl⟩
    rw [← ha] at h1 ⊢
    rw [← hb] at h0 ⊢
    clear ha hb
    omega
  subst hY
  rw [← Nat.mul_assoc] at e1
  obtain ⟨A, hA⟩ : ∃ A, A = (q1 * 4294967296 + q0) * y := ⟨_, rfl⟩
  obtain ⟨T, hT⟩ : ∃ T, T = x * 18446744073709551616 + lo := ⟨_, rfl⟩
  rw [← hA, ← hT] at e1
  rw [← hA, ← hT]
  clear hA hT h1 h0 hu
  have hle : A ≤ T := by
    refine Nat.le_of_mul_le_mul_right (c := P) ?_ hP
    omega
  obtain ⟨r, rfl⟩ := Nat.exists_eq_add_of_le hle
  rw [Nat.add_mul] at e1
  refine ⟨r, by omega, ?_, rfl⟩
  have : z = r * P := by omega
  rw [this] at hz
  exact Nat.lt_of_mul_lt_mul_right hz
/-- How far a word may go up. -/
theorem lead_up {y : Nat} (h0 : y ≠ 0) (h : y < 2 ^ 64) : bitLen y ≤ 64 ∧ 0 < bitLen y ∧ y * 2 ^ (64 - bitLen y) < 18446744073709551616 ∧ 9223372036854775808 ≤ y * 2 ^ (64 - bitLen y) := by
  have e : bitLen y = Nat.log2 y + 1 := by unfold bitLen; rw [if_neg h0]
  have h1 : Nat.log2 y < 64 := (Nat.log2_lt h0).2 h
  have h2 : y < 2 ^ (Nat.log2 y + 1) := Nat.lt_log2_self
  have h3 : 2 ^ Nat.log2 y ≤ y := Nat.log2_self_le h0
  have h4 := Nat.mul_lt_mul_of_pos_right h2 (Nat.two_pow_pos (64 - (Nat.log2 y + 1)))
  have h5 := Nat.mul_le_mul_right (2 ^ (64 - (Nat.log2 y + 1))) h3
  rw [← Nat.pow_add, show Nat.log2 y + 1 + (64 - (Nat.log2 y + 1)) = 64 by omega] at h4
  rw [← Nat.pow_add, show Nat.log2 y + (64 - (Nat.log2 y + 1)) = 63 by omega] at h5
  rw [e]
  exact ⟨by omega, by omega, by omega, by omega⟩
end Go.Proofs.YtaflidiokhaljaaDoor
