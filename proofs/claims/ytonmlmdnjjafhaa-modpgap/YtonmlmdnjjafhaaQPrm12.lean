/-
  Prm12: isPrime, Prime, Below; the law's prime.
-/
import Derived.Test.YtonmlmdnjjafhaaQBaseToPr12
namespace Go.Proofs.Ytonmlmdnjjafhaa
open Go.RowKit
set_option linter.unusedVariables false

/-- Is n a prime? -/
def prB (n : Nat) : Bool := decide (2 ≤ n) && (List.range n).all fun d => decide (d < 2) || decide (n % d ≠ 0)
theorem prB_iff (n : Nat) : prB n = true ↔ IsPr n := by
  unfold prB
  simp only [Bool.and_eq_true, decide_eq_true_eq, List.all_eq_true, List.mem_range, Bool.or_eq_true]
  refine ⟨fun ⟨h1, h2⟩ => ⟨h1, fun d hd => ?_⟩, fun h => ⟨h.1, fun d hd => ?_⟩⟩
  · have hle := Nat.le_of_dvd (by omega) hd
    by_cases e : d = n
    · exact .inr e
    · rcases h2 d (by omega) with q | q
      · left
        have : d ≠ 0 := fun z => by subst z; have := Nat.eq_zero_of_zero_dvd hd; omega
        omega
      · exact absurd (Nat.mod_eq_zero_of_dvd hd) q
  · by_cases q : d < 2
    · exact .inl q
    · right
      intro e
      rcases h.2 d (Nat.dvd_of_mod_eq_zero e) with k | k <;> omega
theorem prB_true {n : Nat} (h : IsPr n) : prB n = true := (prB_iff n).2 h
theorem prB_false {n : Nat} (h : ¬ IsPr n) : prB n = false := by
  rcases Bool.eq_false_or_eq_true (prB n) with q | q
  · exact absurd ((prB_iff n).1 q) h
  · exact q
theorem uwrap {x : Int} (h0 : 0 ≤ x) (h1 : x ≤ 18446744073709551615) : IntKind.u64.wrap x = x := by rw [IntKind.wrap_u64]; omega
theorem uwrapN {x : Nat} (h1 : x ≤ 18446744073709551615) : IntKind.u64.wrap (x : Int) = (x : Int) := uwrap (by omega) (by omega)

theorem tmodN (a b : Nat) : (a : Int).tmod (b : Int) = ((a % b : Nat) : Int) := by rw [Int.tmod_eq_emod_of_nonneg (by omega)]; rfl
theorem emodN (a b : Nat) : (a : Int) % (b : Int) = ((a % b : Nat) : Int) := rfl

set_option maxHeartbeats 800000 in
set_option maxRecDepth 100000 in
theorem isPrime_any {w : World} {n : Nat} (hn : n < 2147483648) :
    Calls Try.prog 10 #[.int .u64 (n : Int)] w fun e w' => e = .returned (.bool (prB n)) ∧ w' = w := by
  by_cases h2 : n % 2 = 0
  · have hm : (n : Int) % 2 = 0 := by omega
    have hm' : (n : Int).tmod 2 = 0 := by rw [Int.tmod_eq_emod_of_nonneg (by omega)]; exact hm
    have FIN : Hid (((n : Int) == 2) = prB n) := by
      unfold Hid
      by_cases e : n = 2
      · rw [prB_true ((ispr_even h2).2 e)]; simp; omega
      · rw [prB_false (fun q => e ((ispr_even h2).1 q))]; simp; omega
    go_enter Try.func10, Try.ntmps10
    go_wp2
    go_ret
    exact ⟨by rw [← FIN.out]; rfl, rfl⟩
  · have hm : (n : Int) % 2 = 1 := by omega
    have hm' : (n : Int).tmod 2 = 1 := by rw [Int.tmod_eq_emod_of_nonneg (by omega)]; exact hm
    have H2 : Hid (n % 2 = 1) := by unfold Hid; omega
    clear h2
    go_enter Try.func10, Try.ntmps10
    go_wp2
    go_loop [3] (fun i => ∃ k : Nat, i = .int .u64 (k : Int) ∧ 3 ≤ k ∧ k ≤ 46345 ∧ k % 2 = 1 ∧ ∀ e, 3 ≤ e → e % 2 = 1 → e < k → ¬ e ∣ n) (fun i => 50000 - (intOf i).toNat)
    case atStart => exact ⟨3, rfl, by omega, by omega, by omega, fun e h1 h2 h3 => by omega⟩
    case round =>
      obtain ⟨k, rfl, hk3, hk4, hk2, hz⟩ := hrel
      have HZ := hid hz
      have HK2 := hid hk2
      clear hz hk2
      have hk46 : k * k ≤ 46345 * 46345 := Nat.mul_le_mul hk4 hk4
      obtain ⟨q, hq⟩ : ∃ q, k * k = q := ⟨_, rfl⟩
      have hw : IntKind.u64.wrap ((k : Int) * (k : Int)) = (q : Int) := by
        rw [← hq]
        have := uwrapN (x := k * k) (by omega)
        simpa using this
      have HQ := hid hq
      rw [hq] at hk46
      clear hq
      by_cases hle : q ≤ n
      · have hle' : (q : Int) ≤ (n : Int) := by omega
        have hk46' : k ≤ 46341 := by
          have := HQ.out
          apply Classical.byContradiction
          intro z
          have := Nat.mul_le_mul (show 46342 ≤ k by omega) (show 46342 ≤ k by omega)
          omega
        have hk0 : ¬ (k : Int) = 0 := by omega
        have ht := tmodN n k
        have ht2 := emodN n k
        by_cases hd : n % k = 0
        · rw [hd] at ht ht2
          have FIN : Hid (false = prB n) := by
            unfold Hid
            rw [prB_false (not_ispr (d := k) (by omega) (by have := HQ.out; omega) (Nat.dvd_of_mod_eq_zero hd))]
          clear hd
          go_wp2
          go_ret
          exact ⟨by rw [← FIN.out]; rfl, rfl⟩
        · obtain ⟨m, hmm⟩ : ∃ m, n % k = m := ⟨_, rfl⟩
          rw [hmm] at ht ht2
          have hm0 : ¬ ((m : Int) = 0) := by omega
          have HD : Hid (¬ n % k = 0) := hd
          have hw2 : IntKind.u64.wrap ((k : Int) + 2) = ((k + 2 : Nat) : Int) := uwrapN (x := k + 2) (by omega)
          clear hd hmm
          go_wp2
          go_round
          case rel =>
            have h2 := H2.out
            have h3 := HK2.out
            refine ⟨k + 2, rfl, by omega, by omega, by omega, fun e h1 h4 h5 => ?_⟩
            by_cases e1 : e < k
            · exact HZ.out e h1 h4 e1
            · obtain rfl : e = k := by omega
              exact fun z => HD.out (Nat.mod_eq_zero_of_dvd z)
          case measure => simp [intOf]; omega
      · have hle' : ¬ (q : Int) ≤ (n : Int) := by omega
        have FIN : Hid (decide (1 < (n : Int)) = prB n) := by
          unfold Hid
          have h2 := H2.out
          by_cases e : 1 < n
          · rw [prB_true (ispr_odd e h2 HZ.out (by have := HQ.out; omega))]; simp; omega
          · rw [prB_false (fun z => e (by have := z.1; omega))]; simp; omega
        clear HQ HZ HK2
        go_wp2
        go_ret
        exact ⟨by rw [← FIN.out]; rfl, rfl⟩

/-- The greatest prime below n, or 0. -/
def blw : Nat → Nat
  | 0 => 0
  | n + 1 => if prB n = true then n else blw n
theorem blw_small {n : Nat} (h : n ≤ 2) : blw n = 0 := by
  match n, h with
  | 0, _ => rfl
  | 1, _ => rfl
  | 2, _ => decide
theorem blw_is : ∀ {n : Nat}, blw n = 0 ∧ (∀ k, k < n → ¬ IsPr k) ∨ (IsPr (blw n) ∧ blw n < n ∧ ∀ k, blw n < k → k < n → ¬ IsPr k)
  | 0 => .inl ⟨rfl, fun k hk => by omega⟩
  | n + 1 => by
    unfold blw
    by_cases h : prB n = true
    · rw [if_pos h]
      exact .inr ⟨(prB_iff n).1 h, by omega, fun k h1 h2 => by omega⟩
    · rw [if_neg h]
      have hn : ¬ IsPr n := fun q => h ((prB_iff n).2 q)
      rcases blw_is (n := n) with ⟨h1, h2⟩ | ⟨h1, h2, h3⟩
      · refine .inl ⟨h1, fun k hk => ?_⟩
        by_cases e : k = n
        · subst e; exact hn
        · exact h2 k (by omega)
      · refine .inr ⟨h1, by omega, fun k h4 h5 => ?_⟩
        by_cases e : k = n
        · subst e; exact hn
        · exact h3 k h4 (by omega)
set_option maxHeartbeats 800000 in
set_option maxRecDepth 100000 in
theorem primeOf_any {w : World} {n : Nat} (hn : n < 2147483648) :
    Calls Try.prog 5 #[.int .u64 (n : Int)] w fun e w' => e = .returned (.tuple #[.bool (prB n), .int .i64 0]) ∧ w' = w := by
  have HP := hid (isPrime_any (w := w) hn)
  have hlt : ¬ (2147483648 : Int) ≤ (n : Int) := by omega
  go_enter Try.func5, Try.ntmps5
  go_wp2_with fail
  refine HP.out.mono ?_
  rintro e w1 ⟨rfl, rfl⟩
  go_wp2
  go_ret2
  exact ⟨rfl, rfl⟩
set_option maxHeartbeats 800000 in
set_option maxRecDepth 100000 in
theorem primeOf_large {w : World} {n : Nat} (hn : 2147483648 ≤ n) :
    Calls Try.prog 5 #[.int .u64 (n : Int)] w fun e w' => e = .returned (.tuple #[.bool false, .int .i64 5]) ∧ w' = w := by
  have hlt : (2147483648 : Int) ≤ (n : Int) := by omega
  go_enter Try.func5, Try.ntmps5
  go_wp2
  go_ret2
  exact ⟨rfl, rfl⟩
set_option maxHeartbeats 800000 in
set_option maxRecDepth 100000 in
theorem below_large {w : World} {n : Nat} (hn : 2147483648 < n) :
    Calls Try.prog 6 #[.int .u64 (n : Int)] w fun e w' => e = .returned (.tuple #[.int .u64 0, .int .i64 5]) ∧ w' = w := by
  have hlt : (2147483648 : Int) < (n : Int) := by omega
  go_enter Try.func6, Try.ntmps6
  go_wp2
  go_ret2
  exact ⟨rfl, rfl⟩
set_option maxHeartbeats 800000 in
set_option maxRecDepth 100000 in
theorem below_any {w : World} {n : Nat} (hn : n ≤ 2147483648) :
    Calls Try.prog 6 #[.int .u64 (n : Int)] w fun e w' => e = .returned (.tuple #[.int .u64 (blw n : Int), .int .i64 (if blw n = 0 then 6 else 0)]) ∧ w' = w := by
  have hlt : ¬ (2147483648 : Int) < (n : Int) := by omega
  obtain ⟨b, hb⟩ : ∃ b, blw n = b := ⟨_, rfl⟩
  rw [hb]
  have HB := hid hb
  clear hb
  obtain ⟨E, hE⟩ : ∃ E : Int, (if b = 0 then 6 else 0) = E := ⟨_, rfl⟩
  rw [hE]
  have HE := hid hE
  clear hE
  go_enter Try.func6, Try.ntmps6
  go_wp2
  go_loop [0] (fun i => ∃ k : Nat, i = .int .u64 (k : Int) ∧ k ≤ n ∧ blw k = b) (fun i => (intOf i).toNat)
  case atStart => exact ⟨n, rfl, Nat.le_refl _, HB.out⟩
  case round =>
    obtain ⟨k, rfl, hk, hkb⟩ := hrel
    have KB := hid hkb
    clear hkb
    by_cases h2 : 2 < k
    · obtain ⟨j, rfl⟩ : ∃ j, k = j + 1 := ⟨k - 1, by omega⟩
      have h2' : (2 : Int) < ((j + 1 : Nat) : Int) := by omega
      have hw : IntKind.u64.wrap (((j + 1 : Nat) : Int) - 1) = (j : Int) := by rw [uwrap] <;> omega
      have HP := hid (isPrime_any (w := w) (n := j) (by omega))
      obtain ⟨c, hc⟩ : ∃ c, prB j = c := ⟨_, rfl⟩
      rw [hc] at HP
      have HC := hid hc
      clear hc
      go_wp2_with fail
      refine HP.out.mono ?_
      rintro e w1 ⟨rfl, rfl⟩
      clear HP
      rcases Bool.eq_false_or_eq_true c with q | q
      · subst q
        go_wp2
        go_ret2
        have h1 := KB.out
        unfold blw at h1
        rw [if_pos HC.out] at h1
        have h3 := HE.out
        rw [if_neg (by omega)] at h3
        subst h1 h3
        exact ⟨rfl, rfl⟩
      · subst q
        go_wp2
        go_round
        case rel =>
          have h1 := KB.out
          unfold blw at h1
          rw [if_neg (by rw [HC.out]; decide)] at h1
          exact ⟨j, rfl, by omega, h1⟩
        case measure => simp [intOf]
    · have h2' : ¬ (2 : Int) < (k : Int) := by omega
      have h3 : b = 0 := by rw [← KB.out]; exact blw_small (by omega)
      have h4 := HE.out
      rw [if_pos h3] at h4
      subst h3 h4
      clear KB
      go_wp2
      go_ret2
      exact ⟨rfl, rfl⟩
set_option maxHeartbeats 800000 in
set_option maxRecDepth 100000 in
theorem lawPrime_no {w : World} {n : Nat} (hn : n < 2 ∨ 2147483648 ≤ n) :
    Calls Try.prog 7 #[.int .u64 (n : Int)] w fun e w' => e = .returned (.bool false) ∧ w' = w := by
  by_cases h : n < 2
  · have h' : (n : Int) < 2 := by omega
    go_enter Try.func7, Try.ntmps7
    go_wp2
    go_ret
    exact ⟨rfl, rfl⟩
  · have h' : ¬ (n : Int) < 2 := by omega
    have h2 : (2147483648 : Int) ≤ (n : Int) := by omega
    clear hn
    go_enter Try.func7, Try.ntmps7
    go_wp2
    go_ret
    exact ⟨rfl, rfl⟩
set_option maxHeartbeats 800000 in
set_option maxRecDepth 100000 in
theorem lawPrime_any {w : World} {n : Nat} (hn2 : 2 ≤ n) (hn : n < 2147483648) :
    Calls Try.prog 7 #[.int .u64 (n : Int)] w fun e w' => e = .returned (.bool (prB n)) ∧ w' = w := by
  have h' : ¬ (n : Int) < 2 := by omega
  have h2 : ¬ (2147483648 : Int) ≤ (n : Int) := by omega
  go_enter Try.func7, Try.ntmps7
  go_wp2
  go_loop [3] (fun i => ∃ k : Nat, i = .int .u64 (k : Int) ∧ 2 ≤ k ∧ k ≤ 46345 ∧ ∀ e, 2 ≤ e → e < k → ¬ e ∣ n) (fun i => 50000 - (intOf i).toNat)
  case atStart => exact ⟨2, rfl, by omega, by omega, fun e h1 h3 => by omega⟩
  case round =>
    obtain ⟨k, rfl, hk3, hk4, hz⟩ := hrel
    clear h' h2
    have HN2 := hid hn2
    clear hn2
    have HZ := hid hz
    clear hz
    have hk46 : k * k ≤ 46345 * 46345 := Nat.mul_le_mul hk4 hk4
    obtain ⟨q, hq⟩ : ∃ q, k * k = q := ⟨_, rfl⟩
    have hw : IntKind.u64.wrap ((k : Int) * (k : Int)) = (q : Int) := by
      rw [← hq]
      have := uwrapN (x := k * k) (by omega)
      simpa using this
    have HQ := hid hq
    rw [hq] at hk46
    clear hq
    by_cases hle : q ≤ n
    · have hle' : (q : Int) ≤ (n : Int) := by omega
      have hk46' : k ≤ 46341 := by
        have := HQ.out
        apply Classical.byContradiction
        intro z
        have := Nat.mul_le_mul (show 46342 ≤ k by omega) (show 46342 ≤ k by omega)
        omega
      have hk0 : ¬ (k : Int) = 0 := by omega
      have ht := tmodN n k
      have ht2 := emodN n k
      by_cases hd : n % k = 0
      · rw [hd] at ht ht2
        have FIN : Hid (false = prB n) := by
          unfold Hid
          rw [prB_false (not_ispr (d := k) (by omega) (by have := HQ.out; omega) (Nat.dvd_of_mod_eq_zero hd))]
        clear hd
        go_wp2
        go_ret
        exact ⟨by rw [← FIN.out]; rfl, rfl⟩
      · obtain ⟨m, hmm⟩ : ∃ m, n % k = m := ⟨_, rfl⟩
        rw [hmm] at ht ht2
        have hm0 : ¬ ((m : Int) = 0) := by omega
        have HD : Hid (¬ n % k = 0) := hd
        obtain ⟨k1, hk1⟩ : ∃ k1, k + 1 = k1 := ⟨_, rfl⟩
        have hw2 : IntKind.u64.wrap ((k : Int) + 1) = (k1 : Int) := by rw [← hk1]; exact uwrapN (x := k + 1) (by omega)
        have HK1 := hid hk1
        clear hd hmm hk1
        go_wp2
        go_round
        case rel =>
          have hk1 := HK1.out
          refine ⟨k1, rfl, by omega, by omega, fun e h1 h5 => ?_⟩
          by_cases e1 : e < k
          · exact HZ.out e h1 e1
          · obtain rfl : e = k := by omega
            exact fun z => HD.out (Nat.mod_eq_zero_of_dvd z)
        case measure => have hk1 := HK1.out; simp [intOf]; omega
    · have hle' : ¬ (q : Int) ≤ (n : Int) := by omega
      have FIN : Hid (true = prB n) := by
        unfold Hid
        rw [prB_true (ispr_all HN2.out HZ.out (by have := HQ.out; omega))]
      clear HQ HZ
      go_wp2
      go_ret
      exact ⟨by rw [← FIN.out]; rfl, rfl⟩
end Go.Proofs.Ytonmlmdnjjafhaa
