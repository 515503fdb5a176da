/-
  Wordful: how many digits a word holds; is it a base.
-/
import Derived.Test.YtpijffnconfboaaDoorQSquareToBunch
namespace Go.Proofs.YtpijffnconfboaaDoor
open Go.RowKit
set_option linter.unusedVariables false

theorem isBase_any (b : Int) (h0 : -9223372036854775808 ≤ b) (h1 : b ≤ 9223372036854775807) (w : World) : Calls Tryd.prog 21 #[.int .i64 b] w fun e w' => e = .returned (.bool (decide (2 ≤ b ∧ b ≤ 36))) ∧ w' = w := by
  by_cases q1 : (2 : Int) ≤ b
  · by_cases q2 : b ≤ 36
    · rw [decide_eq_true ⟨q1, q2⟩]
      go_enter Tryd.func21, Tryd.ntmps21
      go_wp2
      go_ret
      exact ⟨rfl, rfl⟩
    · rw [decide_eq_false (fun h => q2 h.2)]
      go_enter Tryd.func21, Tryd.ntmps21
      go_wp2
      go_ret
      exact ⟨rfl, rfl⟩
  · rw [decide_eq_false (fun h => q1 h.1)]
    go_enter Tryd.func21, Tryd.ntmps21
    go_wp2
    go_ret
    exact ⟨rfl, rfl⟩
/-- A word holds D digits of the base B, whichever they are, and no more. -/
def WD (B D : Nat) : Prop := 1 ≤ D ∧ D ≤ 64 ∧ B ^ D < 18446744073709551616 ∧ 18446744073709551616 ≤ B ^ D * B
theorem pow_small {B k : Nat} (hB : 2 ≤ B) (h : B ^ k < 18446744073709551616) : k < 64 := by
  rcases Nat.lt_or_ge k 64 with q | q
  · exact q
  · have h1 : 2 ^ 64 ≤ 2 ^ k := Nat.pow_le_pow_right (by omega) q
    have h2 : 2 ^ k ≤ B ^ k := Nat.pow_le_pow_left hB k
    have h3 : (2 : Nat) ^ 64 = 18446744073709551616 := by decide
    omega
set_option maxRecDepth 100000 in
set_option maxHeartbeats 1600000 in
theorem wordful_any {B : Nat} (hB : 2 ≤ B) (hB2 : B ≤ 36) (w : World) : Calls Tryd.prog 22 #[.int .i64 (B : Int)] w fun e w' => ∃ D, WD B D ∧ e = .returned (.tuple #[.int .i64 (D : Int), .slice (some ⟨w.heap.size, 0, none⟩) 1 1]) ∧ Mine 0 w' (.slice (some ⟨w.heap.size, 0, none⟩) 1 1) [((B ^ D : Nat) : Int)] ∧ Below w.heap.size w w' := by
  obtain ⟨Q, hQ⟩ : ∃ Q, Q = 18446744073709551615 / B := ⟨_, rfl⟩
  have e1 : (18446744073709551615 : Int).tdiv (B : Int) = (Q : Int) := by rw [hQ]; exact (Int.ofNat_tdiv 18446744073709551615 B).symm
  have e2 : (18446744073709551615 : Int) / (B : Int) = (Q : Int) := by rw [hQ]; simp
  have hQ2 : Q ≤ 18446744073709551615 := by rw [hQ]; exact Nat.div_le_self _ _
  have HQ : Hid (∀ x : Nat, x ≤ Q ↔ x * B ≤ 18446744073709551615) := fun x => by rw [hQ]; exact Nat.le_div_iff_mul_le (by omega)
  clear hQ
  go_enter Tryd.func22, Tryd.ntmps22
  go_wp2
  go_loop [4, 5] (fun d p => ∃ k P : Nat, 1 ≤ k ∧ k ≤ 64 ∧ d = .int .i64 (k : Int) ∧ p = .int .u64 (P : Int) ∧ P < 18446744073709551616 ∧ Hid (P = B ^ k)) (fun d _ => 64 - (intOf d).toNat)
  case atStart => exact ⟨1, B, by omega, by omega, rfl, rfl, by omega, (by unfold Hid; simp)⟩
  case round =>
    obtain ⟨k, P, hk, hk2, rfl, rfl, hP, HP⟩ := hrel
    by_cases hle : P ≤ Q
    · have h1 := (HQ.out P).1 hle
      have hP2 : Hid (P * B = B ^ (k + 1)) := by unfold Hid; rw [HP.out, Nat.pow_succ]
      have hk3 : k + 1 < 64 := pow_small hB (by rw [← hP2.out]; omega)
      have e3 : (P : Int) * (B : Int) = ((P * B : Nat) : Int) := by simp
      have h4 : P * B < 18446744073709551616 := by omega
      generalize P * B = P2 at *
      have e4 : IntKind.u64.wrap ((P : Int) * (B : Int)) = (P2 : Int) := by rw [e3, IntKind.wrap_u64]; omega
      go_wp2
      go_round
      case rel => exact ⟨k + 1, P2, by omega, by omega, by go_num, by first | rfl | (rw [e3]) | go_num, h4, hP2⟩
      case measure => first | (simp [intOf]; done) | (simp [intOf]; omega)
    · have h1 : ¬ P * B ≤ 18446744073709551615 := fun h => hle ((HQ.out P).2 h)
      have HWD : Hid (WD B k) := ⟨hk, hk2, by rw [← HP.out]; exact hP, by rw [← HP.out]; omega⟩
      have hle2 : ¬ (P : Int) ≤ (Q : Int) := by omega
      have HM : Hid (Mine 0 (w.alloc (.cells #[.int .u64 (P : Int)] 41)) (.slice (some ⟨w.heap.size, 0, none⟩) 1 1) [((B ^ k : Nat) : Int)]) := by
        unfold Hid
        rw [← HP.out]
        refine ⟨wf_word (by omega) WF.nil, .inr ⟨w.heap.size, [], 1, Nat.zero_le _, by simp, by simp, .inl (by simp), by simp, ?_⟩⟩
        exact heap_alloc_new w _
      have HB := hid ((Below.refl w.heap.size w).alloc (Nat.le_refl _) (.cells #[.int .u64 (P : Int)] 41))
      clear HQ h1
      go_wp2
      go_ret2
      exact ⟨k, HWD.out, rfl, HM.out, HB.out⟩
end Go.Proofs.YtpijffnconfboaaDoor
