/-
  QROrderToWriteWord: ROrder, RLeast, WriteWord, joined.
-/
import Derived.Test.YtaflidiokhaljaaDoorQSlIntsToRef
import Derived.Test.YtaflidiokhaljaaDoorQJoin
import Derived.Test.YtaflidiokhaljaaDoorQByteRowToOpenT

/- ROrder -/
namespace Go.Proofs.YtaflidiokhaljaaDoor
open Go.RowKit

end Go.Proofs.YtaflidiokhaljaaDoor

/- RLeast -/
namespace Go.Proofs.YtaflidiokhaljaaDoor
open Go.RowKit

end Go.Proofs.YtaflidiokhaljaaDoor

/- WriteWord -/
namespace Go.Proofs.YtaflidiokhaljaaDoor
open Go.RowKit
set_option linter.unusedVariables false

/-- The first word, 0 of none. -/
def fstN (xs : List Int) : Nat := (xs.headD 0).toNat
theorem fstN_val {xs : List Int} (hw : WF xs) (h : vn xs < 18446744073709551616) : fstN xs = vn xs := by
  cases xs with
  | nil => rfl
  | cons x r =>
    have h1 := val_vn hw
    have h2 := hw.head
    have h3 := val_nonneg hw.tail
    unfold IsW at h2
    rw [val] at h1
    unfold fstN
    simp only [List.headD_cons]
    unfold wB at h1 h2
    have : val r = 0 := by omega
    rw [this] at h1
    omega
theorem fstN_lt {xs : List Int} (hw : WF xs) : fstN xs < 18446744073709551616 := by
  unfold fstN
  cases xs with
  | nil => simp
  | cons x r => have := hw.head; unfold IsW wB at this; simp only [List.headD_cons]; omega
/-- The loop of writeWord. -/
def Wrote (w wr : World) (g : Nat) (L : List Int) (off m B n k : Nat) : Prop := RowB wr g (part L off m B n k) ∧ Touch (· = g) w wr

set_option maxRecDepth 100000 in
set_option maxHeartbeats 3200000 in
theorem writeWord_any {w : World} {g off m B cap : Nat} {L : List Int} (hr : RowB w g L) (hm : off + m ≤ L.length) (hT : Sg w) (hg : g ≠ 0) (hB : 2 ≤ B) (hB2 : B ≤ 36) (hml : m ≤ 1073741824) (hmc : m ≤ cap) {va : Value} {xs : List Int} (ha : Sl w.heap.size w va xs) :
    Calls Tryd.prog 42 #[.slice (some ⟨g, off, none⟩) m cap, va, .int .i64 (B : Int)] w fun e w' => e = .returned (.tuple #[]) ∧ RowB w' g (wrote L off m B (fstN xs)) ∧ Touch (· = g) w w' := by
  have hlt := hid (fstN_lt ha.1)
  have HTB := hid hT
  have H0 : Hid (Wrote w w g L off m B (fstN xs) 0) := by unfold Hid Wrote; rw [part_zero]; exact ⟨hr, Touch.refl _ _⟩
  have HM := hid hm
  have hG := hid hg
  obtain ⟨hw, a, ac, rfl, hlc, hcm, hmem⟩ := ha
  cases xs with
  | nil =>
    simp only [List.length_nil] at hlc ⊢
    obtain ⟨n, hn⟩ : ∃ n, n = fstN [] := ⟨_, rfl⟩
    rw [← hn] at hlt H0 ⊢
    have e0 : ((n / B ^ 0 : Nat) : Int) = 0 := by rw [hn]; simp [fstN]
    clear hmem hn
    go_enter Tryd.func42, Tryd.ntmps42
    go_wp2_with fail

    go_loopw [6, 7] (fun x i wr => ∃ k : Nat, k ≤ m ∧ x = .int .u64 ((n / B ^ k : Nat) : Int) ∧ i = .int .i64 (((m - k : Nat) : Int) - 1) ∧ Hid (Wrote w wr g L off m B n k)) (fun _ i _ => (intOf i + 1).toNat)
    case atStart => exact ⟨0, Nat.zero_le _, by rw [e0], by simp, H0⟩
    case round =>
      clear H0
      obtain ⟨k, hk, rfl, rfl, HK⟩ := hrel
      by_cases hkm : k < m
      · obtain ⟨j, hj⟩ : ∃ j, m - k = j + 1 := ⟨m - k - 1, by omega⟩
        have ej : ((m - k : Nat) : Int) - 1 = (j : Int) := by omega
        rw [ej]
        have hjm : off + (m - (k + 1)) = off + j := by omega
        have hd : n / B ^ k % B < 36 := Nat.lt_of_lt_of_le (Nat.mod_lt _ (by omega)) hB2
        have c1 := (HTB.out.touch HK.out.2 (fun q => hG.out q.symm)) _ hd
        have hl : off + j < (part L off m B n k).length := by rw [part_len HM.out hk]; have := HM.out; omega
        have c2 := HK.out.1.cell hl
        have f2 := HK.out.1.frozen (off + j)
        have HS : Hid (Wrote w (wr.setCell ⟨g, off + j, none⟩ (.int .u8 (sgn (n / B ^ k % B)))) g L off m B n (k + 1)) := by
          unfold Hid Wrote
          refine ⟨?_, HK.out.2.setCell (.inr rfl) _ _⟩
          rw [← part_step HM.out hkm, hjm]
          exact HK.out.1.set _ _
        have hq : n / B ^ k < 18446744073709551616 := Nat.lt_of_le_of_lt (Nat.div_le_self _ _) hlt.out
        have e2 : n / B ^ (k + 1) = n / B ^ k / B := by rw [Nat.pow_succ, Nat.div_div_eq_div_mul]
        have e3 : ((n / B ^ k : Nat) : Int) % (B : Int) = ((n / B ^ k % B : Nat) : Int) := by omega
        have e4 : ((n / B ^ k : Nat) : Int) / (B : Int) = ((n / B ^ k / B : Nat) : Int) := by omega
        have hd2 : ((n / B ^ k % B : Nat) : Int) < 36 := by omega
        generalize n / B ^ k = q at *
        generalize (part L off m B n k)[off + j] = z at *
        have e5 : (q : Int).tdiv (B : Int) = ((q / B : Nat) : Int) := (Int.ofNat_tdiv q B).symm
        have e6 : (q : Int).tmod (B : Int) = ((q % B : Nat) : Int) := (Int.ofNat_tmod q B).symm
        have hq2 : q / B < 18446744073709551616 := Nat.lt_of_le_of_lt (Nat.div_le_self _ _) hq
        generalize q % B = dd at *
        generalize q / B = q2 at *
        clear HK
        go_wp2
        go_roundw
        case rel => exact ⟨k + 1, by omega, by rw [e2], by rw [show m - (k + 1) = j by omega], HS⟩
        case measure => first | (simp [intOf]; done) | (simp [intOf]; omega)
      · have ek : k = m := by omega
        have e9 : ((m - k : Nat) : Int) - 1 = -1 := by omega
        rw [e9]
        have HR : Hid (RowB wr g (wrote L off m B n)) := by unfold Hid; rw [← part_all, ← ek]; have := HK.out.1; rw [ek] at this ⊢; exact this
        have HT2 := hid HK.out.2
        clear HK
        go_wp2
        go_end0
        exact ⟨rfl, HR.out, HT2.out⟩
  | cons x r =>
    rcases hmem with e | ⟨b, o, rfl, hb, hc⟩
    · cases e
    have c0 : w.cell? ⟨b, o, none⟩ = some (.int .u64 x) := hc 0 (by simp)
    simp only [List.length_cons] at hlc ⊢
    have hx := hw.head
    obtain ⟨n, hn⟩ : ∃ n, n = fstN (x :: r) := ⟨_, rfl⟩
    rw [← hn] at hlt H0 ⊢
    have e0 : ((n / B ^ 0 : Nat) : Int) = x := by
      rw [hn]
      unfold IsW at hx
      unfold fstN
      simp only [List.headD_cons, Nat.pow_zero, Nat.div_one]
      omega
    generalize r.length = rl at *
    clear hc hn hcm hw
    go_enter Tryd.func42, Tryd.ntmps42
    go_wp2_with fail
    clear c0
    go_loopw [6, 7] (fun x i wr => ∃ k : Nat, k ≤ m ∧ x = .int .u64 ((n / B ^ k : Nat) : Int) ∧ i = .int .i64 (((m - k : Nat) : Int) - 1) ∧ Hid (Wrote w wr g L off m B n k)) (fun _ i _ => (intOf i + 1).toNat)
    case atStart => exact ⟨0, Nat.zero_le _, by rw [e0], by simp, H0⟩
    case round =>
      clear H0
      obtain ⟨k, hk, rfl, rfl, HK⟩ := hrel
      by_cases hkm : k < m
      · obtain ⟨j, hj⟩ : ∃ j, m - k = j + 1 := ⟨m - k - 1, by omega⟩
        have ej : ((m - k : Nat) : Int) - 1 = (j : Int) := by omega
        rw [ej]
        have hjm : off + (m - (k + 1)) = off + j := by omega
        have hd : n / B ^ k % B < 36 := Nat.lt_of_lt_of_le (Nat.mod_lt _ (by omega)) hB2
        have c1 := (HTB.out.touch HK.out.2 (fun q => hG.out q.symm)) _ hd
        have hl : off + j < (part L off m B n k).length := by rw [part_len HM.out hk]; have := HM.out; omega
        have c2 := HK.out.1.cell hl
        have f2 := HK.out.1.frozen (off + j)
        have HS : Hid (Wrote w (wr.setCell ⟨g, off + j, none⟩ (.int .u8 (sgn (n / B ^ k % B)))) g L off m B n (k + 1)) := by
          unfold Hid Wrote
          refine ⟨?_, HK.out.2.setCell (.inr rfl) _ _⟩
          rw [← part_step HM.out hkm, hjm]
          exact HK.out.1.set _ _
        have hq : n / B ^ k < 18446744073709551616 := Nat.lt_of_le_of_lt (Nat.div_le_self _ _) hlt.out
        have e2 : n / B ^ (k + 1) = n / B ^ k / B := by rw [Nat.pow_succ, Nat.div_div_eq_div_mul]
        have e3 : ((n / B ^ k : Nat) : Int) % (B : Int) = ((n / B ^ k % B : Nat) : Int) := by omega
        have e4 : ((n / B ^ k : Nat) : Int) / (B : Int) = ((n / B ^ k / B : Nat) : Int) := by omega
        have hd2 : ((n / B ^ k % B : Nat) : Int) < 36 := by omega
        generalize n / B ^ k = q at *
        generalize (part L off m B n k)[off + j] = z at *
        have e5 : (q : Int).tdiv (B : Int) = ((q / B : Nat) : Int) := (Int.ofNat_tdiv q B).symm
        have e6 : (q : Int).tmod (B : Int) = ((q % B : Nat) : Int) := (Int.ofNat_tmod q B).symm
        have hq2 : q / B < 18446744073709551616 := Nat.lt_of_le_of_lt (Nat.div_le_self _ _) hq
        generalize q % B = dd at *
        generalize q / B = q2 at *
        clear HK
        go_wp2
        go_roundw
        case rel => exact ⟨k + 1, by omega, by rw [e2], by rw [show m - (k + 1) = j by omega], HS⟩
        case measure => first | (simp [intOf]; done) | (simp [intOf]; omega)
      · have ek : k = m := by omega
        have e9 : ((m - k : Nat) : Int) - 1 = -1 := by omega
        rw [e9]
        have HR : Hid (RowB wr g (wrote L off m B n)) := by unfold Hid; rw [← part_all, ← ek]; have := HK.out.1; rw [ek] at this ⊢; exact this
        have HT2 := hid HK.out.2
        clear HK
        go_wp2
        go_end0
        exact ⟨rfl, HR.out, HT2.out⟩
end Go.Proofs.YtaflidiokhaljaaDoor
