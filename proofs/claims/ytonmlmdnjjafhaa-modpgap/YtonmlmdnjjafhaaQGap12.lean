/-
  Gap12: the law ModpGap.
-/
import Derived.Test.YtonmlmdnjjafhaaQWk12
import Derived.Deep.Cut
namespace Go.Proofs.Ytonmlmdnjjafhaa
open Go.RowKit
set_option linter.unusedVariables false

theorem blw_pos {n : Nat} (h : 3 ≤ n) : 2 ≤ blw n ∧ blw n < n ∧ prB (blw n) = true ∧ ∀ k, blw n < k → k < n → prB k = false := by
  rcases blw_is (n := n) with ⟨h1, h2⟩ | ⟨h1, h2, h3⟩
  · exact absurd ((ispr_even (n := 2) rfl).2 rfl) (h2 2 (by omega))
  · exact ⟨h1.1, h2, prB_true h1, fun k a b => prB_false (h3 k a b)⟩
theorem lawPrime12 {w : World} {n : Nat} (hn : n < 2147483648) : Calls Try.prog 7 #[.int .u64 (n : Int)] w fun e w' => e = .returned (.bool (prB n)) ∧ w' = w := by
  by_cases h : n < 2
  · rw [prB_false (fun q => by have := q.1; omega)]
    exact lawPrime_no (.inl h)
  · exact lawPrime_any (by omega) hn
set_option maxHeartbeats 1600000 in
set_option maxRecDepth 100000 in
theorem gap_1a {w : World} {n x y X2 Y2 Z : Nat} (hn : 2147483648 < n) (hx : 2147483648 ≤ x) (u1 : IntKind.u64.wrap (x : Int) = (x : Int)) (u2 : IntKind.u64.wrap (y : Int) = (y : Int)) (u3 : IntKind.u64.wrap ((x : Int) + 2) = (X2 : Int)) (u4 : IntKind.u64.wrap ((y : Int) + 2) = (Y2 : Int)) (u5 : IntKind.u64.wrap ((X2 : Int) * (Y2 : Int)) = (Z : Int)) :
    Calls Try.prog 3 #[.int .u64 (n : Int), .int .u32 (x : Int), .int .u32 (y : Int)] w fun e w' => e = .returned (.bool true) ∧ Below w.heap.size w w' := by
  have HW := hid (wakes12 w)
  have zx : decide ((x : Int) < 2147483648) = false := decide_eq_false (by omega)
  have n1 : decide ((2147483648 : Int) ≤ (n : Int)) = true := decide_eq_true (by omega)
  have n2 : decide ((n : Int) < 2147483648) = false := decide_eq_false (by omega)
  have n3 : decide ((2147483648 : Int) < (n : Int)) = true := decide_eq_true (by omega)
  have HP : Hid (∀ w', Calls Try.prog 5 #[.int .u64 (n : Int)] w' _) := fun w' => primeOf_large (w := w') (n := n) (by omega)
  have HB : Hid (∀ w', Calls Try.prog 6 #[.int .u64 (n : Int)] w' _) := fun w' => below_large (w := w') (n := n) hn
  clear hx hn
  go_enter Try.func3, Try.ntmps3
  go_wp2_with fail
  refine HW.out.mono ?_
  rintro e w1 ⟨rfl, b1w⟩
  have G := hid b1w
  clear b1w HW
  go_wp2_with fail
  refine (HP.out _).mono ?_
  rintro e w9 ⟨rfl, hw9⟩
  have hw9' := hw9.symm
  subst hw9'
  clear hw9
  go_wp2_with fail
  refine (HB.out _).mono ?_
  rintro e w9 ⟨rfl, hw9⟩
  have hw9' := hw9.symm
  subst hw9'
  clear hw9
  go_wp2
  go_ret
  exact ⟨rfl, G.out⟩
set_option maxHeartbeats 1600000 in
set_option maxRecDepth 100000 in
theorem gap_1b {w : World} {n x y X2 Y2 Z : Nat} (hn : 2147483648 < n) (hx : x < 2147483648) (hy : 2147483648 ≤ y) (u1 : IntKind.u64.wrap (x : Int) = (x : Int)) (u2 : IntKind.u64.wrap (y : Int) = (y : Int)) (u3 : IntKind.u64.wrap ((x : Int) + 2) = (X2 : Int)) (u4 : IntKind.u64.wrap ((y : Int) + 2) = (Y2 : Int)) (u5 : IntKind.u64.wrap ((X2 : Int) * (Y2 : Int)) = (Z : Int)) :
    Calls Try.prog 3 #[.int .u64 (n : Int), .int .u32 (x : Int), .int .u32 (y : Int)] w fun e w' => e = .returned (.bool true) ∧ Below w.heap.size w w' := by
  have HW := hid (wakes12 w)
  have zx : decide ((x : Int) < 2147483648) = true := decide_eq_true (by omega)
  have zy : decide ((y : Int) < 2147483648) = false := decide_eq_false (by omega)
  have n1 : decide ((2147483648 : Int) ≤ (n : Int)) = true := decide_eq_true (by omega)
  have n2 : decide ((n : Int) < 2147483648) = false := decide_eq_false (by omega)
  have n3 : decide ((2147483648 : Int) < (n : Int)) = true := decide_eq_true (by omega)
  have HP : Hid (∀ w', Calls Try.prog 5 #[.int .u64 (n : Int)] w' _) := fun w' => primeOf_large (w := w') (n := n) (by omega)
  have HB : Hid (∀ w', Calls Try.prog 6 #[.int .u64 (n : Int)] w' _) := fun w' => below_large (w := w') (n := n) hn
  clear hx hy hn
  go_enter Try.func3, Try.ntmps3
  go_wp2_with fail
  refine HW.out.mono ?_
  rintro e w1 ⟨rfl, b1w⟩
  have G := hid b1w
  clear b1w HW
  go_wp2_with fail
  refine (HP.out _).mono ?_
  rintro e w9 ⟨rfl, hw9⟩
  have hw9' := hw9.symm
  subst hw9'
  clear hw9
  go_wp2_with fail
  refine (HB.out _).mono ?_
  rintro e w9 ⟨rfl, hw9⟩
  have hw9' := hw9.symm
  subst hw9'
  clear hw9
  go_wp2
  go_ret
  exact ⟨rfl, G.out⟩
set_option maxHeartbeats 1600000 in
set_option maxRecDepth 100000 in
theorem gap_1c {w : World} {n x y X2 Y2 Z : Nat} (hn : 2147483648 < n) (hx : x < 2147483648) (hy : y < 2147483648) (hZ : 2147483648 ≤ Z) (u1 : IntKind.u64.wrap (x : Int) = (x : Int)) (u2 : IntKind.u64.wrap (y : Int) = (y : Int)) (u3 : IntKind.u64.wrap ((x : Int) + 2) = (X2 : Int)) (u4 : IntKind.u64.wrap ((y : Int) + 2) = (Y2 : Int)) (u5 : IntKind.u64.wrap ((X2 : Int) * (Y2 : Int)) = (Z : Int)) :
    Calls Try.prog 3 #[.int .u64 (n : Int), .int .u32 (x : Int), .int .u32 (y : Int)] w fun e w' => e = .returned (.bool true) ∧ Below w.heap.size w w' := by
  have HW := hid (wakes12 w)
  have zx : decide ((x : Int) < 2147483648) = true := decide_eq_true (by omega)
  have zy : decide ((y : Int) < 2147483648) = true := decide_eq_true (by omega)
  have zz : decide ((Z : Int) < 2147483648) = false := decide_eq_false (by omega)
  have n1 : decide ((2147483648 : Int) ≤ (n : Int)) = true := decide_eq_true (by omega)
  have n2 : decide ((n : Int) < 2147483648) = false := decide_eq_false (by omega)
  have n3 : decide ((2147483648 : Int) < (n : Int)) = true := decide_eq_true (by omega)
  have HP : Hid (∀ w', Calls Try.prog 5 #[.int .u64 (n : Int)] w' _) := fun w' => primeOf_large (w := w') (n := n) (by omega)
  have HB : Hid (∀ w', Calls Try.prog 6 #[.int .u64 (n : Int)] w' _) := fun w' => below_large (w := w') (n := n) hn
  clear hx hy hZ hn
  go_enter Try.func3, Try.ntmps3
  go_wp2_with fail
  refine HW.out.mono ?_
  rintro e w1 ⟨rfl, b1w⟩
  have G := hid b1w
  clear b1w HW
  go_wp2_with fail
  refine (HP.out _).mono ?_
  rintro e w9 ⟨rfl, hw9⟩
  have hw9' := hw9.symm
  subst hw9'
  clear hw9
  go_wp2_with fail
  refine (HB.out _).mono ?_
  rintro e w9 ⟨rfl, hw9⟩
  have hw9' := hw9.symm
  subst hw9'
  clear hw9
  go_wp2
  go_ret
  exact ⟨rfl, G.out⟩
set_option maxHeartbeats 1600000 in
set_option maxRecDepth 100000 in
theorem gap_1d {w : World} {n x y X2 Y2 Z : Nat} (hn : 2147483648 < n) (hx : x < 2147483648) (hy : y < 2147483648) (hZ : Z < 2147483648) (hZp : prB Z = false) (u1 : IntKind.u64.wrap (x : Int) = (x : Int)) (u2 : IntKind.u64.wrap (y : Int) = (y : Int)) (u3 : IntKind.u64.wrap ((x : Int) + 2) = (X2 : Int)) (u4 : IntKind.u64.wrap ((y : Int) + 2) = (Y2 : Int)) (u5 : IntKind.u64.wrap ((X2 : Int) * (Y2 : Int)) = (Z : Int)) :
    Calls Try.prog 3 #[.int .u64 (n : Int), .int .u32 (x : Int), .int .u32 (y : Int)] w fun e w' => e = .returned (.bool true) ∧ Below w.heap.size w w' := by
  have HW := hid (wakes12 w)
  have zx : decide ((x : Int) < 2147483648) = true := decide_eq_true (by omega)
  have zy : decide ((y : Int) < 2147483648) = true := decide_eq_true (by omega)
  have zz : decide ((Z : Int) < 2147483648) = true := decide_eq_true (by omega)
  have n1 : decide ((2147483648 : Int) ≤ (n : Int)) = true := decide_eq_true (by omega)
  have n2 : decide ((n : Int) < 2147483648) = false := decide_eq_false (by omega)
  have n3 : decide ((2147483648 : Int) < (n : Int)) = true := decide_eq_true (by omega)
  have HP : Hid (∀ w', Calls Try.prog 5 #[.int .u64 (n : Int)] w' _) := fun w' => primeOf_large (w := w') (n := n) (by omega)
  have HB : Hid (∀ w', Calls Try.prog 6 #[.int .u64 (n : Int)] w' _) := fun w' => below_large (w := w') (n := n) hn
  have HZ : Hid (∀ w', Calls Try.prog 5 #[.int .u64 (Z : Int)] w' fun e w'' => e = .returned (.tuple #[.bool false, .int .i64 0]) ∧ w'' = w') := fun w' => by
    have := primeOf_any (w := w') (n := Z) hZ
    rw [hZp] at this
    exact this
  clear hZp
  clear hx hy hZ hn
  go_enter Try.func3, Try.ntmps3
  go_wp2_with fail
  refine HW.out.mono ?_
  rintro e w1 ⟨rfl, b1w⟩
  have G := hid b1w
  clear b1w HW
  go_wp2_with fail
  refine (HP.out _).mono ?_
  rintro e w9 ⟨rfl, hw9⟩
  have hw9' := hw9.symm
  subst hw9'
  clear hw9
  go_wp2_with fail
  refine (HB.out _).mono ?_
  rintro e w9 ⟨rfl, hw9⟩
  have hw9' := hw9.symm
  subst hw9'
  clear hw9
  go_wp2_with fail
  refine (HZ.out _).mono ?_
  rintro e w9 ⟨rfl, hw9⟩
  have hw9' := hw9.symm
  subst hw9'
  clear hw9
  go_wp2
  go_ret
  exact ⟨rfl, G.out⟩
set_option maxHeartbeats 1600000 in
set_option maxRecDepth 100000 in
theorem gap_2a {w : World} {n x y X2 Y2 Z : Nat} (hn3 : 3 ≤ n) (hn : n ≤ 2147483648) (hn2 : 2147483648 ≤ n) (hx : 2147483648 ≤ x) (u1 : IntKind.u64.wrap (x : Int) = (x : Int)) (u2 : IntKind.u64.wrap (y : Int) = (y : Int)) (u3 : IntKind.u64.wrap ((x : Int) + 2) = (X2 : Int)) (u4 : IntKind.u64.wrap ((y : Int) + 2) = (Y2 : Int)) (u5 : IntKind.u64.wrap ((X2 : Int) * (Y2 : Int)) = (Z : Int)) :
    Calls Try.prog 3 #[.int .u64 (n : Int), .int .u32 (x : Int), .int .u32 (y : Int)] w fun e w' => e = .returned (.bool true) ∧ Below w.heap.size w w' := by
  have HW := hid (wakes12 w)
  have zx : decide ((x : Int) < 2147483648) = false := decide_eq_false (by omega)
  obtain ⟨b, hb⟩ : ∃ b, blw n = b := ⟨_, rfl⟩
  obtain ⟨E, hE⟩ : ∃ E : Int, (if b = 0 then 6 else 0) = E := ⟨_, rfl⟩
  have HB : Hid (∀ w', Calls Try.prog 6 #[.int .u64 (n : Int)] w' fun e w'' => e = .returned (.tuple #[.int .u64 (b : Int), .int .i64 E]) ∧ w'' = w') := fun w' => by
    have := below_any (w := w') (n := n) (by omega)
    rw [hb, hE] at this
    exact this
  have n3 : decide ((2147483648 : Int) < (n : Int)) = false := decide_eq_false (by omega)
  have n1 : decide ((2147483648 : Int) ≤ (n : Int)) = true := decide_eq_true (by omega)
  have n2 : decide ((n : Int) < 2147483648) = false := decide_eq_false (by omega)
  have HP : Hid (∀ w', Calls Try.prog 5 #[.int .u64 (n : Int)] w' _) := fun w' => primeOf_large (w := w') (n := n) hn2
  have n4 : decide ((n : Int) < 3) = false := decide_eq_false (by omega)
  have hbp := blw_pos hn3
  rw [hb] at hbp
  obtain ⟨hb2, hbn, hbp, hbk⟩ := hbp
  rw [if_neg (by omega)] at hE
  subst hE
  have bn : decide ((n : Int) ≤ (b : Int)) = false := decide_eq_false (by omega)
  have HL2 : Hid (∀ w', Calls Try.prog 7 #[.int .u64 (b : Int)] w' fun e w'' => e = .returned (.bool true) ∧ w'' = w') := fun w' => by
    have := lawPrime12 (w := w') (n := b) (by omega)
    rw [hbp] at this
    exact this
  have HBK := hid hbk
  obtain ⟨b1, hb1⟩ : ∃ b1, b + 1 = b1 := ⟨_, rfl⟩
  have wb : IntKind.u64.wrap ((b : Int) + 1) = (b1 : Int) := by rw [← hb1]; exact uwrapN (x := b + 1) (by omega)
  have HB1 := hid hb1
  have WB := hid wb
  clear hb hbp hbk hb1 wb
  clear hx
  have ORD : Hid (3 ≤ n ∧ n ≤ 2147483648 ∧ 2 ≤ b ∧ b < n) := ⟨hn3, hn, hb2, hbn⟩
  clear hn3 hn hn2 hb2 hbn
  go_enter Try.func3, Try.ntmps3
  go_wp2_with fail
  refine HW.out.mono ?_
  rintro e w1 ⟨rfl, b1w⟩
  have G := hid b1w
  clear b1w HW
  go_wp2_with fail
  refine (HP.out _).mono ?_
  rintro e w9 ⟨rfl, hw9⟩
  have hw9' := hw9.symm
  subst hw9'
  clear hw9
  go_wp2_with fail
  refine (HB.out _).mono ?_
  rintro e w9 ⟨rfl, hw9⟩
  have hw9' := hw9.symm
  subst hw9'
  clear hw9
  go_upto_if 88 with (fail)
  have q0 : ((0 : Int) != 0) = false := rfl
  have bn2 : ¬ (n : Int) ≤ (b : Int) := by have := ORD.out; omega
  go_wp2_with fail
  refine (HL2.out _).mono ?_
  rintro e w9 ⟨rfl, hw9⟩
  have hw9' := hw9.symm
  subst hw9'
  clear hw9
  clear HP HB HL2 n1 n2 n3 n4 bn bn2 zx
  have wb := WB.out
  clear WB
  go_wp2_with fail
  go_loop [14] (fun s => ∃ k : Nat, s = .int .u64 (k : Int) ∧ b < k ∧ k ≤ n) (fun s => n - (intOf s).toNat)
  case atStart => exact ⟨b1, rfl, by have := HB1.out; omega, by have := HB1.out; have := ORD.out; omega⟩
  case round =>
    obtain ⟨k, rfl, hk1, hk2⟩ := hrel
    by_cases hk : k < n
    · have hk' : (k : Int) < (n : Int) := by omega
      have ek := HBK.out k hk1 hk
      have P1 : Hid (Calls Try.prog 5 #[.int .u64 (k : Int)] w1 fun e w'' => e = .returned (.tuple #[.bool false, .int .i64 0]) ∧ w'' = w1) := by
        have := primeOf_any (w := w1) (n := k) (by have := ORD.out; omega)
        rw [ek] at this
        exact this
      have P2 : Hid (Calls Try.prog 7 #[.int .u64 (k : Int)] w1 fun e w'' => e = .returned (.bool false) ∧ w'' = w1) := by
        have := lawPrime12 (w := w1) (n := k) (by have := ORD.out; omega)
        rw [ek] at this
        exact this
      obtain ⟨k1, hk3⟩ : ∃ k1, k + 1 = k1 := ⟨_, rfl⟩
      have wk : IntKind.u64.wrap ((k : Int) + 1) = (k1 : Int) := by rw [← hk3]; exact uwrapN (x := k + 1) (by have := ORD.out; omega)
      have HK1 : Hid (b < k1 ∧ k1 ≤ n ∧ k1 = k + 1) := by unfold Hid; omega
      have HKK := hid hk
      clear ek hk1 hk2 hk3 hk
      go_wp2_with fail
      refine P1.out.mono ?_
      rintro e w9 ⟨rfl, hw9⟩
      have hw9' := hw9.symm
      subst hw9'
      clear hw9
      go_wp2_with fail
      refine P2.out.mono ?_
      rintro e w9 ⟨rfl, hw9⟩
      have hw9' := hw9.symm
      subst hw9'
      clear hw9
      go_wp2_with fail
      go_round
      case rel => exact ⟨k1, rfl, HK1.out.1, HK1.out.2.1⟩
      case measure => have := HK1.out; have := HKK.out; simp [intOf]; omega
    · have hk' : ¬ (k : Int) < (n : Int) := by omega
      go_wp2
      go_ret
      exact ⟨rfl, G.out⟩
set_option maxHeartbeats 1600000 in
set_option maxRecDepth 100000 in
theorem gap_2b {w : World} {n x y X2 Y2 Z : Nat} (hn3 : 3 ≤ n) (hn : n ≤ 2147483648) (hn2 : 2147483648 ≤ n) (hx : x < 2147483648) (hy : 2147483648 ≤ y) (u1 : IntKind.u64.wrap (x : Int) = (x : Int)) (u2 : IntKind.u64.wrap (y : Int) = (y : Int)) (u3 : IntKind.u64.wrap ((x : Int) + 2) = (X2 : Int)) (u4 : IntKind.u64.wrap ((y : Int) + 2) = (Y2 : Int)) (u5 : IntKind.u64.wrap ((X2 : Int) * (Y2 : Int)) = (Z : Int)) :
    Calls Try.prog 3 #[.int .u64 (n : Int), .int .u32 (x : Int), .int .u32 (y : Int)] w fun e w' => e = .returned (.bool true) ∧ Below w.heap.size w w' := by
  have HW := hid (wakes12 w)
  have zx : decide ((x : Int) < 2147483648) = true := decide_eq_true (by omega)
  have zy : decide ((y : Int) < 2147483648) = false := decide_eq_false (by omega)
  obtain ⟨b, hb⟩ : ∃ b, blw n = b := ⟨_, rfl⟩
  obtain ⟨E, hE⟩ : ∃ E : Int, (if b = 0 then 6 else 0) = E := ⟨_, rfl⟩
  have HB : Hid (∀ w', Calls Try.prog 6 #[.int .u64 (n : Int)] w' fun e w'' => e = .returned (.tuple #[.int .u64 (b : Int), .int .i64 E]) ∧ w'' = w') := fun w' => by
    have := below_any (w := w') (n := n) (by omega)
    rw [hb, hE] at this
    exact this
  have n3 : decide ((2147483648 : Int) < (n : Int)) = false := decide_eq_false (by omega)
  have n1 : decide ((2147483648 : Int) ≤ (n : Int)) = true := decide_eq_true (by omega)
  have n2 : decide ((n : Int) < 2147483648) = false := decide_eq_false (by omega)
  have HP : Hid (∀ w', Calls Try.prog 5 #[.int .u64 (n : Int)] w' _) := fun w' => primeOf_large (w := w') (n := n) hn2
  have n4 : decide ((n : Int) < 3) = false := decide_eq_false (by omega)
  have hbp := blw_pos hn3
  rw [hb] at hbp
  obtain ⟨hb2, hbn, hbp, hbk⟩ := hbp
  rw [if_neg (by omega)] at hE
  subst hE
  have bn : decide ((n : Int) ≤ (b : Int)) = false := decide_eq_false (by omega)
  have HL2 : Hid (∀ w', Calls Try.prog 7 #[.int .u64 (b : Int)] w' fun e w'' => e = .returned (.bool true) ∧ w'' = w') := fun w' => by
    have := lawPrime12 (w := w') (n := b) (by omega)
    rw [hbp] at this
    exact this
  have HBK := hid hbk
  obtain ⟨b1, hb1⟩ : ∃ b1, b + 1 = b1 := ⟨_, rfl⟩
  have wb : IntKind.u64.wrap ((b : Int) + 1) = (b1 : Int) := by rw [← hb1]; exact uwrapN (x := b + 1) (by omega)
  have HB1 := hid hb1
  have WB := hid wb
  clear hb hbp hbk hb1 wb
  clear hx hy
  have ORD : Hid (3 ≤ n ∧ n ≤ 2147483648 ∧ 2 ≤ b ∧ b < n) := ⟨hn3, hn, hb2, hbn⟩
  clear hn3 hn hn2 hb2 hbn
  go_enter Try.func3, Try.ntmps3
  go_wp2_with fail
  refine HW.out.mono ?_
  rintro e w1 ⟨rfl, b1w⟩
  have G := hid b1w
  clear b1w HW
  go_wp2_with fail
  refine (HP.out _).mono ?_
  rintro e w9 ⟨rfl, hw9⟩
  have hw9' := hw9.symm
  subst hw9'
  clear hw9
  go_wp2_with fail
  refine (HB.out _).mono ?_
  rintro e w9 ⟨rfl, hw9⟩
  have hw9' := hw9.symm
  subst hw9'
  clear hw9
  go_upto_if 88 with (fail)
  have q0 : ((0 : Int) != 0) = false := rfl
  have bn2 : ¬ (n : Int) ≤ (b : Int) := by have := ORD.out; omega
  go_wp2_with fail
  refine (HL2.out _).mono ?_
  rintro e w9 ⟨rfl, hw9⟩
  have hw9' := hw9.symm
  subst hw9'
  clear hw9
  clear HP HB HL2 n1 n2 n3 n4 bn bn2 zx zy
  have wb := WB.out
  clear WB
  go_wp2_with fail
  go_loop [14] (fun s => ∃ k : Nat, s = .int .u64 (k : Int) ∧ b < k ∧ k ≤ n) (fun s => n - (intOf s).toNat)
  case atStart => exact ⟨b1, rfl, by have := HB1.out; omega, by have := HB1.out; have := ORD.out; omega⟩
  case round =>
    obtain ⟨k, rfl, hk1, hk2⟩ := hrel
    by_cases hk : k < n
    · have hk' : (k : Int) < (n : Int) := by omega
      have ek := HBK.out k hk1 hk
      have P1 : Hid (Calls Try.prog 5 #[.int .u64 (k : Int)] w1 fun e w'' => e = .returned (.tuple #[.bool false, .int .i64 0]) ∧ w'' = w1) := by
        have := primeOf_any (w := w1) (n := k) (by have := ORD.out; omega)
        rw [ek] at this
        exact this
      have P2 : Hid (Calls Try.prog 7 #[.int .u64 (k : Int)] w1 fun e w'' => e = .returned (.bool false) ∧ w'' = w1) := by
        have := lawPrime12 (w := w1) (n := k) (by have := ORD.out; omega)
        rw [ek] at this
        exact this
      obtain ⟨k1, hk3⟩ : ∃ k1, k + 1 = k1 := ⟨_, rfl⟩
      have wk : IntKind.u64.wrap ((k : Int) + 1) = (k1 : Int) := by rw [← hk3]; exact uwrapN (x := k + 1) (by have := ORD.out; omega)
      have HK1 : Hid (b < k1 ∧ k1 ≤ n ∧ k1 = k + 1) := by unfold Hid; omega
      have HKK := hid hk
      clear ek hk1 hk2 hk3 hk
      go_wp2_with fail
      refine P1.out.mono ?_
      rintro e w9 ⟨rfl, hw9⟩
      have hw9' := hw9.symm
      subst hw9'
      clear hw9
      go_wp2_with fail
      refine P2.out.mono ?_
      rintro e w9 ⟨rfl, hw9⟩
      have hw9' := hw9.symm
      subst hw9'
      clear hw9
      go_wp2_with fail
      go_round
      case rel => exact ⟨k1, rfl, HK1.out.1, HK1.out.2.1⟩
      case measure => have := HK1.out; have := HKK.out; simp [intOf]; omega
    · have hk' : ¬ (k : Int) < (n : Int) := by omega
      go_wp2
      go_ret
      exact ⟨rfl, G.out⟩
set_option maxHeartbeats 1600000 in
set_option maxRecDepth 100000 in
theorem gap_2c {w : World} {n x y X2 Y2 Z : Nat} (hn3 : 3 ≤ n) (hn : n ≤ 2147483648) (hn2 : 2147483648 ≤ n) (hx : x < 2147483648) (hy : y < 2147483648) (hZ : 2147483648 ≤ Z) (u1 : IntKind.u64.wrap (x : Int) = (x : Int)) (u2 : IntKind.u64.wrap (y : Int) = (y : Int)) (u3 : IntKind.u64.wrap ((x : Int) + 2) = (X2 : Int)) (u4 : IntKind.u64.wrap ((y : Int) + 2) = (Y2 : Int)) (u5 : IntKind.u64.wrap ((X2 : Int) * (Y2 : Int)) = (Z : Int)) :
    Calls Try.prog 3 #[.int .u64 (n : Int), .int .u32 (x : Int), .int .u32 (y : Int)] w fun e w' => e = .returned (.bool true) ∧ Below w.heap.size w w' := by
  have HW := hid (wakes12 w)
  have zx : decide ((x : Int) < 2147483648) = true := decide_eq_true (by omega)
  have zy : decide ((y : Int) < 2147483648) = true := decide_eq_true (by omega)
  have zz : decide ((Z : Int) < 2147483648) = false := decide_eq_false (by omega)
  obtain ⟨b, hb⟩ : ∃ b, blw n = b := ⟨_, rfl⟩
  obtain ⟨E, hE⟩ : ∃ E : Int, (if b = 0 then 6 else 0) = E := ⟨_, rfl⟩
  have HB : Hid (∀ w', Calls Try.prog 6 #[.int .u64 (n : Int)] w' fun e w'' => e = .returned (.tuple #[.int .u64 (b : Int), .int .i64 E]) ∧ w'' = w') := fun w' => by
    have := below_any (w := w') (n := n) (by omega)
    rw [hb, hE] at this
    exact this
  have n3 : decide ((2147483648 : Int) < (n : Int)) = false := decide_eq_false (by omega)
  have n1 : decide ((2147483648 : Int) ≤ (n : Int)) = true := decide_eq_true (by omega)
  have n2 : decide ((n : Int) < 2147483648) = false := decide_eq_false (by omega)
  have HP : Hid (∀ w', Calls Try.prog 5 #[.int .u64 (n : Int)] w' _) := fun w' => primeOf_large (w := w') (n := n) hn2
  have n4 : decide ((n : Int) < 3) = false := decide_eq_false (by omega)
  have hbp := blw_pos hn3
  rw [hb] at hbp
  obtain ⟨hb2, hbn, hbp, hbk⟩ := hbp
  rw [if_neg (by omega)] at hE
  subst hE
  have bn : decide ((n : Int) ≤ (b : Int)) = false := decide_eq_false (by omega)
  have HL2 : Hid (∀ w', Calls Try.prog 7 #[.int .u64 (b : Int)] w' fun e w'' => e = .returned (.bool true) ∧ w'' = w') := fun w' => by
    have := lawPrime12 (w := w') (n := b) (by omega)
    rw [hbp] at this
    exact this
  have HBK := hid hbk
  obtain ⟨b1, hb1⟩ : ∃ b1, b + 1 = b1 := ⟨_, rfl⟩
  have wb : IntKind.u64.wrap ((b : Int) + 1) = (b1 : Int) := by rw [← hb1]; exact uwrapN (x := b + 1) (by omega)
  have HB1 := hid hb1
  have WB := hid wb
  clear hb hbp hbk hb1 wb
  clear hx hy hZ
  have ORD : Hid (3 ≤ n ∧ n ≤ 2147483648 ∧ 2 ≤ b ∧ b < n) := ⟨hn3, hn, hb2, hbn⟩
  clear hn3 hn hn2 hb2 hbn
  go_enter Try.func3, Try.ntmps3
  go_wp2_with fail
  refine HW.out.mono ?_
  rintro e w1 ⟨rfl, b1w⟩
  have G := hid b1w
  clear b1w HW
  go_wp2_with fail
  refine (HP.out _).mono ?_
  rintro e w9 ⟨rfl, hw9⟩
  have hw9' := hw9.symm
  subst hw9'
  clear hw9
  go_wp2_with fail
  refine (HB.out _).mono ?_
  rintro e w9 ⟨rfl, hw9⟩
  have hw9' := hw9.symm
  subst hw9'
  clear hw9
  go_upto_if 88 with (fail)
  have q0 : ((0 : Int) != 0) = false := rfl
  have bn2 : ¬ (n : Int) ≤ (b : Int) := by have := ORD.out; omega
  go_wp2_with fail
  refine (HL2.out _).mono ?_
  rintro e w9 ⟨rfl, hw9⟩
  have hw9' := hw9.symm
  subst hw9'
  clear hw9
  clear HP HB HL2 n1 n2 n3 n4 bn bn2 zx zy zz
  have wb := WB.out
  clear WB
  go_wp2_with fail
  go_loop [14] (fun s => ∃ k : Nat, s = .int .u64 (k : Int) ∧ b < k ∧ k ≤ n) (fun s => n - (intOf s).toNat)
  case atStart => exact ⟨b1, rfl, by have := HB1.out; omega, by have := HB1.out; have := ORD.out; omega⟩
  case round =>
    obtain ⟨k, rfl, hk1, hk2⟩ := hrel
    by_cases hk : k < n
    · have hk' : (k : Int) < (n : Int) := by omega
      have ek := HBK.out k hk1 hk
      have P1 : Hid (Calls Try.prog 5 #[.int .u64 (k : Int)] w1 fun e w'' => e = .returned (.tuple #[.bool false, .int .i64 0]) ∧ w'' = w1) := by
        have := primeOf_any (w := w1) (n := k) (by have := ORD.out; omega)
        rw [ek] at this
        exact this
      have P2 : Hid (Calls Try.prog 7 #[.int .u64 (k : Int)] w1 fun e w'' => e = .returned (.bool false) ∧ w'' = w1) := by
        have := lawPrime12 (w := w1) (n := k) (by have := ORD.out; omega)
        rw [ek] at this
        exact this
      obtain ⟨k1, hk3⟩ : ∃ k1, k + 1 = k1 := ⟨_, rfl⟩
      have wk : IntKind.u64.wrap ((k : Int) + 1) = (k1 : Int) := by rw [← hk3]; exact uwrapN (x := k + 1) (by have := ORD.out; omega)
      have HK1 : Hid (b < k1 ∧ k1 ≤ n ∧ k1 = k + 1) := by unfold Hid; omega
      have HKK := hid hk
      clear ek hk1 hk2 hk3 hk
      go_wp2_with fail
      refine P1.out.mono ?_
      rintro e w9 ⟨rfl, hw9⟩
      have hw9' := hw9.symm
      subst hw9'
      clear hw9
      go_wp2_with fail
      refine P2.out.mono ?_
      rintro e w9 ⟨rfl, hw9⟩
      have hw9' := hw9.symm
      subst hw9'
      clear hw9
      go_wp2_with fail
      go_round
      case rel => exact ⟨k1, rfl, HK1.out.1, HK1.out.2.1⟩
      case measure => have := HK1.out; have := HKK.out; simp [intOf]; omega
    · have hk' : ¬ (k : Int) < (n : Int) := by omega
      go_wp2
      go_ret
      exact ⟨rfl, G.out⟩
set_option maxHeartbeats 1600000 in
set_option maxRecDepth 100000 in
theorem gap_2d {w : World} {n x y X2 Y2 Z : Nat} (hn3 : 3 ≤ n) (hn : n ≤ 2147483648) (hn2 : 2147483648 ≤ n) (hx : x < 2147483648) (hy : y < 2147483648) (hZ : Z < 2147483648) (hZp : prB Z = false) (u1 : IntKind.u64.wrap (x : Int) = (x : Int)) (u2 : IntKind.u64.wrap (y : Int) = (y : Int)) (u3 : IntKind.u64.wrap ((x : Int) + 2) = (X2 : Int)) (u4 : IntKind.u64.wrap ((y : Int) + 2) = (Y2 : Int)) (u5 : IntKind.u64.wrap ((X2 : Int) * (Y2 : Int)) = (Z : Int)) :
    Calls Try.prog 3 #[.int .u64 (n : Int), .int .u32 (x : Int), .int .u32 (y : Int)] w fun e w' => e = .returned (.bool true) ∧ Below w.heap.size w w' := by
  have HW := hid (wakes12 w)
  have zx : decide ((x : Int) < 2147483648) = true := decide_eq_true (by omega)
  have zy : decide ((y : Int) < 2147483648) = true := decide_eq_true (by omega)
  have zz : decide ((Z : Int) < 2147483648) = true := decide_eq_true (by omega)
  obtain ⟨b, hb⟩ : ∃ b, blw n = b := ⟨_, rfl⟩
  obtain ⟨E, hE⟩ : ∃ E : Int, (if b = 0 then 6 else 0) = E := ⟨_, rfl⟩
  have HB : Hid (∀ w', Calls Try.prog 6 #[.int .u64 (n : Int)] w' fun e w'' => e = .returned (.tuple #[.int .u64 (b : Int), .int .i64 E]) ∧ w'' = w') := fun w' => by
    have := below_any (w := w') (n := n) (by omega)
    rw [hb, hE] at this
    exact this
  have n3 : decide ((2147483648 : Int) < (n : Int)) = false := decide_eq_false (by omega)
  have n1 : decide ((2147483648 : Int) ≤ (n : Int)) = true := decide_eq_true (by omega)
  have n2 : decide ((n : Int) < 2147483648) = false := decide_eq_false (by omega)
  have HP : Hid (∀ w', Calls Try.prog 5 #[.int .u64 (n : Int)] w' _) := fun w' => primeOf_large (w := w') (n := n) hn2
  have n4 : decide ((n : Int) < 3) = false := decide_eq_false (by omega)
  have hbp := blw_pos hn3
  rw [hb] at hbp
  obtain ⟨hb2, hbn, hbp, hbk⟩ := hbp
  rw [if_neg (by omega)] at hE
  subst hE
  have bn : decide ((n : Int) ≤ (b : Int)) = false := decide_eq_false (by omega)
  have HL2 : Hid (∀ w', Calls Try.prog 7 #[.int .u64 (b : Int)] w' fun e w'' => e = .returned (.bool true) ∧ w'' = w') := fun w' => by
    have := lawPrime12 (w := w') (n := b) (by omega)
    rw [hbp] at this
    exact this
  have HBK := hid hbk
  obtain ⟨b1, hb1⟩ : ∃ b1, b + 1 = b1 := ⟨_, rfl⟩
  have wb : IntKind.u64.wrap ((b : Int) + 1) = (b1 : Int) := by rw [← hb1]; exact uwrapN (x := b + 1) (by omega)
  have HB1 := hid hb1
  have WB := hid wb
  clear hb hbp hbk hb1 wb
  have HZ : Hid (∀ w', Calls Try.prog 5 #[.int .u64 (Z : Int)] w' fun e w'' => e = .returned (.tuple #[.bool false, .int .i64 0]) ∧ w'' = w') := fun w' => by
    have := primeOf_any (w := w') (n := Z) hZ
    rw [hZp] at this
    exact this
  clear hZp
  clear hx hy hZ
  have ORD : Hid (3 ≤ n ∧ n ≤ 2147483648 ∧ 2 ≤ b ∧ b < n) := ⟨hn3, hn, hb2, hbn⟩
  clear hn3 hn hn2 hb2 hbn
  go_enter Try.func3, Try.ntmps3
  go_wp2_with fail
  refine HW.out.mono ?_
  rintro e w1 ⟨rfl, b1w⟩
  have G := hid b1w
  clear b1w HW
  go_wp2_with fail
  refine (HP.out _).mono ?_
  rintro e w9 ⟨rfl, hw9⟩
  have hw9' := hw9.symm
  subst hw9'
  clear hw9
  go_wp2_with fail
  refine (HB.out _).mono ?_
  rintro e w9 ⟨rfl, hw9⟩
  have hw9' := hw9.symm
  subst hw9'
  clear hw9
  go_wp2_with fail
  refine (HZ.out _).mono ?_
  rintro e w9 ⟨rfl, hw9⟩
  have hw9' := hw9.symm
  subst hw9'
  clear hw9
  go_upto_if 88 with (fail)
  have q0 : ((0 : Int) != 0) = false := rfl
  have bn2 : ¬ (n : Int) ≤ (b : Int) := by have := ORD.out; omega
  go_wp2_with fail
  refine (HL2.out _).mono ?_
  rintro e w9 ⟨rfl, hw9⟩
  have hw9' := hw9.symm
  subst hw9'
  clear hw9
  clear HP HB HL2 n1 n2 n3 n4 bn bn2 zx zy zz HZ
  have wb := WB.out
  clear WB
  go_wp2_with fail
  go_loop [14] (fun s => ∃ k : Nat, s = .int .u64 (k : Int) ∧ b < k ∧ k ≤ n) (fun s => n - (intOf s).toNat)
  case atStart => exact ⟨b1, rfl, by have := HB1.out; omega, by have := HB1.out; have := ORD.out; omega⟩
  case round =>
    obtain ⟨k, rfl, hk1, hk2⟩ := hrel
    by_cases hk : k < n
    · have hk' : (k : Int) < (n : Int) := by omega
      have ek := HBK.out k hk1 hk
      have P1 : Hid (Calls Try.prog 5 #[.int .u64 (k : Int)] w1 fun e w'' => e = .returned (.tuple #[.bool false, .int .i64 0]) ∧ w'' = w1) := by
        have := primeOf_any (w := w1) (n := k) (by have := ORD.out; omega)
        rw [ek] at this
        exact this
      have P2 : Hid (Calls Try.prog 7 #[.int .u64 (k : Int)] w1 fun e w'' => e = .returned (.bool false) ∧ w'' = w1) := by
        have := lawPrime12 (w := w1) (n := k) (by have := ORD.out; omega)
        rw [ek] at this
        exact this
      obtain ⟨k1, hk3⟩ : ∃ k1, k + 1 = k1 := ⟨_, rfl⟩
      have wk : IntKind.u64.wrap ((k : Int) + 1) = (k1 : Int) := by rw [← hk3]; exact uwrapN (x := k + 1) (by have := ORD.out; omega)
      have HK1 : Hid (b < k1 ∧ k1 ≤ n ∧ k1 = k + 1) := by unfold Hid; omega
      have HKK := hid hk
      clear ek hk1 hk2 hk3 hk
      go_wp2_with fail
      refine P1.out.mono ?_
      rintro e w9 ⟨rfl, hw9⟩
      have hw9' := hw9.symm
      subst hw9'
      clear hw9
      go_wp2_with fail
      refine P2.out.mono ?_
      rintro e w9 ⟨rfl, hw9⟩
      have hw9' := hw9.symm
      subst hw9'
      clear hw9
      go_wp2_with fail
      go_round
      case rel => exact ⟨k1, rfl, HK1.out.1, HK1.out.2.1⟩
      case measure => have := HK1.out; have := HKK.out; simp [intOf]; omega
    · have hk' : ¬ (k : Int) < (n : Int) := by omega
      go_wp2
      go_ret
      exact ⟨rfl, G.out⟩
set_option maxHeartbeats 1600000 in
set_option maxRecDepth 100000 in
theorem gap_3a {w : World} {n x y X2 Y2 Z : Nat} (hn3 : n < 3) (hx : 2147483648 ≤ x) (u1 : IntKind.u64.wrap (x : Int) = (x : Int)) (u2 : IntKind.u64.wrap (y : Int) = (y : Int)) (u3 : IntKind.u64.wrap ((x : Int) + 2) = (X2 : Int)) (u4 : IntKind.u64.wrap ((y : Int) + 2) = (Y2 : Int)) (u5 : IntKind.u64.wrap ((X2 : Int) * (Y2 : Int)) = (Z : Int)) :
    Calls Try.prog 3 #[.int .u64 (n : Int), .int .u32 (x : Int), .int .u32 (y : Int)] w fun e w' => e = .returned (.bool true) ∧ Below w.heap.size w w' := by
  have HW := hid (wakes12 w)
  have zx : decide ((x : Int) < 2147483648) = false := decide_eq_false (by omega)
  obtain ⟨b, hb⟩ : ∃ b, blw n = b := ⟨_, rfl⟩
  obtain ⟨E, hE⟩ : ∃ E : Int, (if b = 0 then 6 else 0) = E := ⟨_, rfl⟩
  have HB : Hid (∀ w', Calls Try.prog 6 #[.int .u64 (n : Int)] w' fun e w'' => e = .returned (.tuple #[.int .u64 (b : Int), .int .i64 E]) ∧ w'' = w') := fun w' => by
    have := below_any (w := w') (n := n) (by omega)
    rw [hb, hE] at this
    exact this
  have n3 : decide ((2147483648 : Int) < (n : Int)) = false := decide_eq_false (by omega)
  have n1 : decide ((2147483648 : Int) ≤ (n : Int)) = false := decide_eq_false (by omega)
  have n2 : decide ((n : Int) < 2147483648) = true := decide_eq_true (by omega)
  obtain ⟨q, hq⟩ : ∃ q, prB n = q := ⟨_, rfl⟩
  have HP : Hid (∀ w', Calls Try.prog 5 #[.int .u64 (n : Int)] w' fun e w'' => e = .returned (.tuple #[.bool q, .int .i64 0]) ∧ w'' = w') := fun w' => by
    have := primeOf_any (w := w') (n := n) (by omega)
    rw [hq] at this
    exact this
  have HL : Hid (∀ w', Calls Try.prog 7 #[.int .u64 (n : Int)] w' fun e w'' => e = .returned (.bool q) ∧ w'' = w') := fun w' => by
    have := lawPrime12 (w := w') (n := n) (by omega)
    rw [hq] at this
    exact this
  have hqq : (q != q) = false := by simp
  clear hq
  have n4 : decide ((n : Int) < 3) = true := decide_eq_true (by omega)
  have eb : b = 0 := by rw [← hb]; exact blw_small (by omega)
  rw [if_pos eb] at hE
  subst hE eb
  clear hb
  clear hx hn3
  go_enter Try.func3, Try.ntmps3
  go_wp2_with fail
  refine HW.out.mono ?_
  rintro e w1 ⟨rfl, b1w⟩
  have G := hid b1w
  clear b1w HW
  go_wp2_with fail
  refine (HP.out _).mono ?_
  rintro e w9 ⟨rfl, hw9⟩
  have hw9' := hw9.symm
  subst hw9'
  clear hw9
  go_wp2_with fail
  refine (HB.out _).mono ?_
  rintro e w9 ⟨rfl, hw9⟩
  have hw9' := hw9.symm
  subst hw9'
  clear hw9
  go_wp2_with fail
  refine (HL.out _).mono ?_
  rintro e w9 ⟨rfl, hw9⟩
  have hw9' := hw9.symm
  subst hw9'
  clear hw9
  go_wp2
  go_ret
  exact ⟨rfl, G.out⟩
set_option maxHeartbeats 1600000 in
set_option maxRecDepth 100000 in
theorem gap_3b {w : World} {n x y X2 Y2 Z : Nat} (hn3 : n < 3) (hx : x < 2147483648) (hy : 2147483648 ≤ y) (u1 : IntKind.u64.wrap (x : Int) = (x : Int)) (u2 : IntKind.u64.wrap (y : Int) = (y : Int)) (u3 : IntKind.u64.wrap ((x : Int) + 2) = (X2 : Int)) (u4 : IntKind.u64.wrap ((y : Int) + 2) = (Y2 : Int)) (u5 : IntKind.u64.wrap ((X2 : Int) * (Y2 : Int)) = (Z : Int)) :
    Calls Try.prog 3 #[.int .u64 (n : Int), .int .u32 (x : Int), .int .u32 (y : Int)] w fun e w' => e = .returned (.bool true) ∧ Below w.heap.size w w' := by
  have HW := hid (wakes12 w)
  have zx : decide ((x : Int) < 2147483648) = true := decide_eq_true (by omega)
  have zy : decide ((y : Int) < 2147483648) = false := decide_eq_false (by omega)
  obtain ⟨b, hb⟩ : ∃ b, blw n = b := ⟨_, rfl⟩
  obtain ⟨E, hE⟩ : ∃ E : Int, (if b = 0 then 6 else 0) = E := ⟨_, rfl⟩
  have HB : Hid (∀ w', Calls Try.prog 6 #[.int .u64 (n : Int)] w' fun e w'' => e = .returned (.tuple #[.int .u64 (b : Int), .int .i64 E]) ∧ w'' = w') := fun w' => by
    have := below_any (w := w') (n := n) (by omega)
    rw [hb, hE] at this
    exact this
  have n3 : decide ((2147483648 : Int) < (n : Int)) = false := decide_eq_false (by omega)
  have n1 : decide ((2147483648 : Int) ≤ (n : Int)) = false := decide_eq_false (by omega)
  have n2 : decide ((n : Int) < 2147483648) = true := decide_eq_true (by omega)
  obtain ⟨q, hq⟩ : ∃ q, prB n = q := ⟨_, rfl⟩
  have HP : Hid (∀ w', Calls Try.prog 5 #[.int .u64 (n : Int)] w' fun e w'' => e = .returned (.tuple #[.bool q, .int .i64 0]) ∧ w'' = w') := fun w' => by
    have := primeOf_any (w := w') (n := n) (by omega)
    rw [hq] at this
    exact this
  have HL : Hid (∀ w', Calls Try.prog 7 #[.int .u64 (n : Int)] w' fun e w'' => e = .returned (.bool q) ∧ w'' = w') := fun w' => by
    have := lawPrime12 (w := w') (n := n) (by omega)
    rw [hq] at this
    exact this
  have hqq : (q != q) = false := by simp
  clear hq
  have n4 : decide ((n : Int) < 3) = true := decide_eq_true (by omega)
  have eb : b = 0 := by rw [← hb]; exact blw_small (by omega)
  rw [if_pos eb] at hE
  subst hE eb
  clear hb
  clear hx hy hn3
  go_enter Try.func3, Try.ntmps3
  go_wp2_with fail
  refine HW.out.mono ?_
  rintro e w1 ⟨rfl, b1w⟩
  have G := hid b1w
  clear b1w HW
  go_wp2_with fail
  refine (HP.out _).mono ?_
  rintro e w9 ⟨rfl, hw9⟩
  have hw9' := hw9.symm
  subst hw9'
  clear hw9
  go_wp2_with fail
  refine (HB.out _).mono ?_
  rintro e w9 ⟨rfl, hw9⟩
  have hw9' := hw9.symm
  subst hw9'
  clear hw9
  go_wp2_with fail
  refine (HL.out _).mono ?_
  rintro e w9 ⟨rfl, hw9⟩
  have hw9' := hw9.symm
  subst hw9'
  clear hw9
  go_wp2
  go_ret
  exact ⟨rfl, G.out⟩
set_option maxHeartbeats 1600000 in
set_option maxRecDepth 100000 in
theorem gap_3c {w : World} {n x y X2 Y2 Z : Nat} (hn3 : n < 3) (hx : x < 2147483648) (hy : y < 2147483648) (hZ : 2147483648 ≤ Z) (u1 : IntKind.u64.wrap (x : Int) = (x : Int)) (u2 : IntKind.u64.wrap (y : Int) = (y : Int)) (u3 : IntKind.u64.wrap ((x : Int) + 2) = (X2 : Int)) (u4 : IntKind.u64.wrap ((y : Int) + 2) = (Y2 : Int)) (u5 : IntKind.u64.wrap ((X2 : Int) * (Y2 : Int)) = (Z : Int)) :
    Calls Try.prog 3 #[.int .u64 (n : Int), .int .u32 (x : Int), .int .u32 (y : Int)] w fun e w' => e = .returned (.bool true) ∧ Below w.heap.size w w' := by
  have HW := hid (wakes12 w)
  have zx : decide ((x : Int) < 2147483648) = true := decide_eq_true (by omega)
  have zy : decide ((y : Int) < 2147483648) = true := decide_eq_true (by omega)
  have zz : decide ((Z : Int) < 2147483648) = false := decide_eq_false (by omega)
  obtain ⟨b, hb⟩ : ∃ b, blw n = b := ⟨_, rfl⟩
  obtain ⟨E, hE⟩ : ∃ E : Int, (if b = 0 then 6 else 0) = E := ⟨_, rfl⟩
  have HB : Hid (∀ w', Calls Try.prog 6 #[.int .u64 (n : Int)] w' fun e w'' => e = .returned (.tuple #[.int .u64 (b : Int), .int .i64 E]) ∧ w'' = w') := fun w' => by
    have := below_any (w := w') (n := n) (by omega)
    rw [hb, hE] at this
    exact this
  have n3 : decide ((2147483648 : Int) < (n : Int)) = false := decide_eq_false (by omega)
  have n1 : decide ((2147483648 : Int) ≤ (n : Int)) = false := decide_eq_false (by omega)
  have n2 : decide ((n : Int) < 2147483648) = true := decide_eq_true (by omega)
  obtain ⟨q, hq⟩ : ∃ q, prB n = q := ⟨_, rfl⟩
  have HP : Hid (∀ w', Calls Try.prog 5 #[.int .u64 (n : Int)] w' fun e w'' => e = .returned (.tuple #[.bool q, .int .i64 0]) ∧ w'' = w') := fun w' => by
    have := primeOf_any (w := w') (n := n) (by omega)
    rw [hq] at this
    exact this
  have HL : Hid (∀ w', Calls Try.prog 7 #[.int .u64 (n : Int)] w' fun e w'' => e = .returned (.bool q) ∧ w'' = w') := fun w' => by
    have := lawPrime12 (w := w') (n := n) (by omega)
    rw [hq] at this
    exact this
  have hqq : (q != q) = false := by simp
  clear hq
  have n4 : decide ((n : Int) < 3) = true := decide_eq_true (by omega)
  have eb : b = 0 := by rw [← hb]; exact blw_small (by omega)
  rw [if_pos eb] at hE
  subst hE eb
  clear hb
  clear hx hy hZ hn3
  go_enter Try.func3, Try.ntmps3
  go_wp2_with fail
  refine HW.out.mono ?_
  rintro e w1 ⟨rfl, b1w⟩
  have G := hid b1w
  clear b1w HW
  go_wp2_with fail
  refine (HP.out _).mono ?_
  rintro e w9 ⟨rfl, hw9⟩
  have hw9' := hw9.symm
  subst hw9'
  clear hw9
  go_wp2_with fail
  refine (HB.out _).mono ?_
  rintro e w9 ⟨rfl, hw9⟩
  have hw9' := hw9.symm
  subst hw9'
  clear hw9
  go_wp2_with fail
  refine (HL.out _).mono ?_
  rintro e w9 ⟨rfl, hw9⟩
  have hw9' := hw9.symm
  subst hw9'
  clear hw9
  go_wp2
  go_ret
  exact ⟨rfl, G.out⟩
set_option maxHeartbeats 1600000 in
set_option maxRecDepth 100000 in
theorem gap_3d {w : World} {n x y X2 Y2 Z : Nat} (hn3 : n < 3) (hx : x < 2147483648) (hy : y < 2147483648) (hZ : Z < 2147483648) (hZp : prB Z = false) (u1 : IntKind.u64.wrap (x : Int) = (x : Int)) (u2 : IntKind.u64.wrap (y : Int) = (y : Int)) (u3 : IntKind.u64.wrap ((x : Int) + 2) = (X2 : Int)) (u4 : IntKind.u64.wrap ((y : Int) + 2) = (Y2 : Int)) (u5 : IntKind.u64.wrap ((X2 : Int) * (Y2 : Int)) = (Z : Int)) :
    Calls Try.prog 3 #[.int .u64 (n : Int), .int .u32 (x : Int), .int .u32 (y : Int)] w fun e w' => e = .returned (.bool true) ∧ Below w.heap.size w w' := by
  have HW := hid (wakes12 w)
  have zx : decide ((x : Int) < 2147483648) = true := decide_eq_true (by omega)
  have zy : decide ((y : Int) < 2147483648) = true := decide_eq_true (by omega)
  have zz : decide ((Z : Int) < 2147483648) = true := decide_eq_true (by omega)
  obtain ⟨b, hb⟩ : ∃ b, blw n = b := ⟨_, rfl⟩
  obtain ⟨E, hE⟩ : ∃ E : Int, (if b = 0 then 6 else 0) = E := ⟨_, rfl⟩
  have HB : Hid (∀ w', Calls Try.prog 6 #[.int .u64 (n : Int)] w' fun e w'' => e = .returned (.tuple #[.int .u64 (b : Int), .int .i64 E]) ∧ w'' = w') := fun w' => by
    have := below_any (w := w') (n := n) (by omega)
    rw [hb, hE] at this
    exact this
  have n3 : decide ((2147483648 : Int) < (n : Int)) = false := decide_eq_false (by omega)
  have n1 : decide ((2147483648 : Int) ≤ (n : Int)) = false := decide_eq_false (by omega)
  have n2 : decide ((n : Int) < 2147483648) = true := decide_eq_true (by omega)
  obtain ⟨q, hq⟩ : ∃ q, prB n = q := ⟨_, rfl⟩
  have HP : Hid (∀ w', Calls Try.prog 5 #[.int .u64 (n : Int)] w' fun e w'' => e = .returned (.tuple #[.bool q, .int .i64 0]) ∧ w'' = w') := fun w' => by
    have := primeOf_any (w := w') (n := n) (by omega)
    rw [hq] at this
    exact this
  have HL : Hid (∀ w', Calls Try.prog 7 #[.int .u64 (n : Int)] w' fun e w'' => e = .returned (.bool q) ∧ w'' = w') := fun w' => by
    have := lawPrime12 (w := w') (n := n) (by omega)
    rw [hq] at this
    exact this
  have hqq : (q != q) = false := by simp
  clear hq
  have n4 : decide ((n : Int) < 3) = true := decide_eq_true (by omega)
  have eb : b = 0 := by rw [← hb]; exact blw_small (by omega)
  rw [if_pos eb] at hE
  subst hE eb
  clear hb
  have HZ : Hid (∀ w', Calls Try.prog 5 #[.int .u64 (Z : Int)] w' fun e w'' => e = .returned (.tuple #[.bool false, .int .i64 0]) ∧ w'' = w') := fun w' => by
    have := primeOf_any (w := w') (n := Z) hZ
    rw [hZp] at this
    exact this
  clear hZp
  clear hx hy hZ hn3
  go_enter Try.func3, Try.ntmps3
  go_wp2_with fail
  refine HW.out.mono ?_
  rintro e w1 ⟨rfl, b1w⟩
  have G := hid b1w
  clear b1w HW
  go_wp2_with fail
  refine (HP.out _).mono ?_
  rintro e w9 ⟨rfl, hw9⟩
  have hw9' := hw9.symm
  subst hw9'
  clear hw9
  go_wp2_with fail
  refine (HB.out _).mono ?_
  rintro e w9 ⟨rfl, hw9⟩
  have hw9' := hw9.symm
  subst hw9'
  clear hw9
  go_wp2_with fail
  refine (HL.out _).mono ?_
  rintro e w9 ⟨rfl, hw9⟩
  have hw9' := hw9.symm
  subst hw9'
  clear hw9
  go_wp2_with fail
  refine (HZ.out _).mono ?_
  rintro e w9 ⟨rfl, hw9⟩
  have hw9' := hw9.symm
  subst hw9'
  clear hw9
  go_wp2
  go_ret
  exact ⟨rfl, G.out⟩
set_option maxHeartbeats 1600000 in
set_option maxRecDepth 100000 in
theorem gap_4a {w : World} {n x y X2 Y2 Z : Nat} (hn3 : 3 ≤ n) (hn2 : n < 2147483648) (hx : 2147483648 ≤ x) (u1 : IntKind.u64.wrap (x : Int) = (x : Int)) (u2 : IntKind.u64.wrap (y : Int) = (y : Int)) (u3 : IntKind.u64.wrap ((x : Int) + 2) = (X2 : Int)) (u4 : IntKind.u64.wrap ((y : Int) + 2) = (Y2 : Int)) (u5 : IntKind.u64.wrap ((X2 : Int) * (Y2 : Int)) = (Z : Int)) :
    Calls Try.prog 3 #[.int .u64 (n : Int), .int .u32 (x : Int), .int .u32 (y : Int)] w fun e w' => e = .returned (.bool true) ∧ Below w.heap.size w w' := by
  have HW := hid (wakes12 w)
  have zx : decide ((x : Int) < 2147483648) = false := decide_eq_false (by omega)
  obtain ⟨b, hb⟩ : ∃ b, blw n = b := ⟨_, rfl⟩
  obtain ⟨E, hE⟩ : ∃ E : Int, (if b = 0 then 6 else 0) = E := ⟨_, rfl⟩
  have HB : Hid (∀ w', Calls Try.prog 6 #[.int .u64 (n : Int)] w' fun e w'' => e = .returned (.tuple #[.int .u64 (b : Int), .int .i64 E]) ∧ w'' = w') := fun w' => by
    have := below_any (w := w') (n := n) (by omega)
    rw [hb, hE] at this
    exact this
  have n3 : decide ((2147483648 : Int) < (n : Int)) = false := decide_eq_false (by omega)
  have n1 : decide ((2147483648 : Int) ≤ (n : Int)) = false := decide_eq_false (by omega)
  have n2 : decide ((n : Int) < 2147483648) = true := decide_eq_true (by omega)
  obtain ⟨q, hq⟩ : ∃ q, prB n = q := ⟨_, rfl⟩
  have HP : Hid (∀ w', Calls Try.prog 5 #[.int .u64 (n : Int)] w' fun e w'' => e = .returned (.tuple #[.bool q, .int .i64 0]) ∧ w'' = w') := fun w' => by
    have := primeOf_any (w := w') (n := n) (by omega)
    rw [hq] at this
    exact this
  have HL : Hid (∀ w', Calls Try.prog 7 #[.int .u64 (n : Int)] w' fun e w'' => e = .returned (.bool q) ∧ w'' = w') := fun w' => by
    have := lawPrime12 (w := w') (n := n) (by omega)
    rw [hq] at this
    exact this
  have hqq : (q != q) = false := by simp
  clear hq
  have n4 : decide ((n : Int) < 3) = false := decide_eq_false (by omega)
  have hbp := blw_pos hn3
  rw [hb] at hbp
  obtain ⟨hb2, hbn, hbp, hbk⟩ := hbp
  rw [if_neg (by omega)] at hE
  subst hE
  have bn : decide ((n : Int) ≤ (b : Int)) = false := decide_eq_false (by omega)
  have HL2 : Hid (∀ w', Calls Try.prog 7 #[.int .u64 (b : Int)] w' fun e w'' => e = .returned (.bool true) ∧ w'' = w') := fun w' => by
    have := lawPrime12 (w := w') (n := b) (by omega)
    rw [hbp] at this
    exact this
  have HBK := hid hbk
  obtain ⟨b1, hb1⟩ : ∃ b1, b + 1 = b1 := ⟨_, rfl⟩
  have wb : IntKind.u64.wrap ((b : Int) + 1) = (b1 : Int) := by rw [← hb1]; exact uwrapN (x := b + 1) (by omega)
  have HB1 := hid hb1
  have WB := hid wb
  clear hb hbp hbk hb1 wb
  clear hx
  have ORD : Hid (3 ≤ n ∧ n ≤ 2147483648 ∧ 2 ≤ b ∧ b < n) := ⟨hn3, by omega, hb2, hbn⟩
  clear hn3 hn2 hb2 hbn
  go_enter Try.func3, Try.ntmps3
  go_wp2_with fail
  refine HW.out.mono ?_
  rintro e w1 ⟨rfl, b1w⟩
  have G := hid b1w
  clear b1w HW
  go_wp2_with fail
  refine (HP.out _).mono ?_
  rintro e w9 ⟨rfl, hw9⟩
  have hw9' := hw9.symm
  subst hw9'
  clear hw9
  go_wp2_with fail
  refine (HB.out _).mono ?_
  rintro e w9 ⟨rfl, hw9⟩
  have hw9' := hw9.symm
  subst hw9'
  clear hw9
  go_wp2_with fail
  refine (HL.out _).mono ?_
  rintro e w9 ⟨rfl, hw9⟩
  have hw9' := hw9.symm
  subst hw9'
  clear hw9
  go_upto_if 88 with (fail)
  have q0 : ((0 : Int) != 0) = false := rfl
  have bn2 : ¬ (n : Int) ≤ (b : Int) := by have := ORD.out; omega
  go_wp2_with fail
  refine (HL2.out _).mono ?_
  rintro e w9 ⟨rfl, hw9⟩
  have hw9' := hw9.symm
  subst hw9'
  clear hw9
  clear HP HB HL2 n1 n2 n3 n4 bn bn2 zx HL hqq
  have wb := WB.out
  clear WB
  go_wp2_with fail
  go_loop [14] (fun s => ∃ k : Nat, s = .int .u64 (k : Int) ∧ b < k ∧ k ≤ n) (fun s => n - (intOf s).toNat)
  case atStart => exact ⟨b1, rfl, by have := HB1.out; omega, by have := HB1.out; have := ORD.out; omega⟩
  case round =>
    obtain ⟨k, rfl, hk1, hk2⟩ := hrel
    by_cases hk : k < n
    · have hk' : (k : Int) < (n : Int) := by omega
      have ek := HBK.out k hk1 hk
      have P1 : Hid (Calls Try.prog 5 #[.int .u64 (k : Int)] w1 fun e w'' => e = .returned (.tuple #[.bool false, .int .i64 0]) ∧ w'' = w1) := by
        have := primeOf_any (w := w1) (n := k) (by have := ORD.out; omega)
        rw [ek] at this
        exact this
      have P2 : Hid (Calls Try.prog 7 #[.int .u64 (k : Int)] w1 fun e w'' => e = .returned (.bool false) ∧ w'' = w1) := by
        have := lawPrime12 (w := w1) (n := k) (by have := ORD.out; omega)
        rw [ek] at this
        exact this
      obtain ⟨k1, hk3⟩ : ∃ k1, k + 1 = k1 := ⟨_, rfl⟩
      have wk : IntKind.u64.wrap ((k : Int) + 1) = (k1 : Int) := by rw [← hk3]; exact uwrapN (x := k + 1) (by have := ORD.out; omega)
      have HK1 : Hid (b < k1 ∧ k1 ≤ n ∧ k1 = k + 1) := by unfold Hid; omega
      have HKK := hid hk
      clear ek hk1 hk2 hk3 hk
      go_wp2_with fail
      refine P1.out.mono ?_
      rintro e w9 ⟨rfl, hw9⟩
      have hw9' := hw9.symm
      subst hw9'
      clear hw9
      go_wp2_with fail
      refine P2.out.mono ?_
      rintro e w9 ⟨rfl, hw9⟩
      have hw9' := hw9.symm
      subst hw9'
      clear hw9
      go_wp2_with fail
      go_round
      case rel => exact ⟨k1, rfl, HK1.out.1, HK1.out.2.1⟩
      case measure => have := HK1.out; have := HKK.out; simp [intOf]; omega
    · have hk' : ¬ (k : Int) < (n : Int) := by omega
      go_wp2
      go_ret
      exact ⟨rfl, G.out⟩
set_option maxHeartbeats 1600000 in
set_option maxRecDepth 100000 in
theorem gap_4b {w : World} {n x y X2 Y2 Z : Nat} (hn3 : 3 ≤ n) (hn2 : n < 2147483648) (hx : x < 2147483648) (hy : 2147483648 ≤ y) (u1 : IntKind.u64.wrap (x : Int) = (x : Int)) (u2 : IntKind.u64.wrap (y : Int) = (y : Int)) (u3 : IntKind.u64.wrap ((x : Int) + 2) = (X2 : Int)) (u4 : IntKind.u64.wrap ((y : Int) + 2) = (Y2 : Int)) (u5 : IntKind.u64.wrap ((X2 : Int) * (Y2 : Int)) = (Z : Int)) :
    Calls Try.prog 3 #[.int .u64 (n : Int), .int .u32 (x : Int), .int .u32 (y : Int)] w fun e w' => e = .returned (.bool true) ∧ Below w.heap.size w w' := by
  have HW := hid (wakes12 w)
  have zx : decide ((x : Int) < 2147483648) = true := decide_eq_true (by omega)
  have zy : decide ((y : Int) < 2147483648) = false := decide_eq_false (by omega)
  obtain ⟨b, hb⟩ : ∃ b, blw n = b := ⟨_, rfl⟩
  obtain ⟨E, hE⟩ : ∃ E : Int, (if b = 0 then 6 else 0) = E := ⟨_, rfl⟩
  have HB : Hid (∀ w', Calls Try.prog 6 #[.int .u64 (n : Int)] w' fun e w'' => e = .returned (.tuple #[.int .u64 (b : Int), .int .i64 E]) ∧ w'' = w') := fun w' => by
    have := below_any (w := w') (n := n) (by omega)
    rw [hb, hE] at this
    exact this
  have n3 : decide ((2147483648 : Int) < (n : Int)) = false := decide_eq_false (by omega)
  have n1 : decide ((2147483648 : Int) ≤ (n : Int)) = false := decide_eq_false (by omega)
  have n2 : decide ((n : Int) < 2147483648) = true := decide_eq_true (by omega)
  obtain ⟨q, hq⟩ : ∃ q, prB n = q := ⟨_, rfl⟩
  have HP : Hid (∀ w', Calls Try.prog 5 #[.int .u64 (n : Int)] w' fun e w'' => e = .returned (.tuple #[.bool q, .int .i64 0]) ∧ w'' = w') := fun w' => by
    have := primeOf_any (w := w') (n := n) (by omega)
    rw [hq] at this
    exact this
  have HL : Hid (∀ w', Calls Try.prog 7 #[.int .u64 (n : Int)] w' fun e w'' => e = .returned (.bool q) ∧ w'' = w') := fun w' => by
    have := lawPrime12 (w := w') (n := n) (by omega)
    rw [hq] at this
    exact this
  have hqq : (q != q) = false := by simp
  clear hq
  have n4 : decide ((n : Int) < 3) = false := decide_eq_false (by omega)
  have hbp := blw_pos hn3
  rw [hb] at hbp
  obtain ⟨hb2, hbn, hbp, hbk⟩ := hbp
  rw [if_neg (by omega)] at hE
  subst hE
  have bn : decide ((n : Int) ≤ (b : Int)) = false := decide_eq_false (by omega)
  have HL2 : Hid (∀ w', Calls Try.prog 7 #[.int .u64 (b : Int)] w' fun e w'' => e = .returned (.bool true) ∧ w'' = w') := fun w' => by
    have := lawPrime12 (w := w') (n := b) (by omega)
    rw [hbp] at this
    exact this
  have HBK := hid hbk
  obtain ⟨b1, hb1⟩ : ∃ b1, b + 1 = b1 := ⟨_, rfl⟩
  have wb : IntKind.u64.wrap ((b : Int) + 1) = (b1 : Int) := by rw [← hb1]; exact uwrapN (x := b + 1) (by omega)
  have HB1 := hid hb1
  have WB := hid wb
  clear hb hbp hbk hb1 wb
  clear hx hy
  have ORD : Hid (3 ≤ n ∧ n ≤ 2147483648 ∧ 2 ≤ b ∧ b < n) := ⟨hn3, by omega, hb2, hbn⟩
  clear hn3 hn2 hb2 hbn
  go_enter Try.func3, Try.ntmps3
  go_wp2_with fail
  refine HW.out.mono ?_
  rintro e w1 ⟨rfl, b1w⟩
  have G := hid b1w
  clear b1w HW
  go_wp2_with fail
  refine (HP.out _).mono ?_
  rintro e w9 ⟨rfl, hw9⟩
  have hw9' := hw9.symm
  subst hw9'
  clear hw9
  go_wp2_with fail
  refine (HB.out _).mono ?_
  rintro e w9 ⟨rfl, hw9⟩
  have hw9' := hw9.symm
  subst hw9'
  clear hw9
  go_wp2_with fail
  refine (HL.out _).mono ?_
  rintro e w9 ⟨rfl, hw9⟩
  have hw9' := hw9.symm
  subst hw9'
  clear hw9
  go_upto_if 88 with (fail)
  have q0 : ((0 : Int) != 0) = false := rfl
  have bn2 : ¬ (n : Int) ≤ (b : Int) := by have := ORD.out; omega
  go_wp2_with fail
  refine (HL2.out _).mono ?_
  rintro e w9 ⟨rfl, hw9⟩
  have hw9' := hw9.symm
  subst hw9'
  clear hw9
  clear HP HB HL2 n1 n2 n3 n4 bn bn2 zx zy HL hqq
  have wb := WB.out
  clear WB
  go_wp2_with fail
  go_loop [14] (fun s => ∃ k : Nat, s = .int .u64 (k : Int) ∧ b < k ∧ k ≤ n) (fun s => n - (intOf s).toNat)
  case atStart => exact ⟨b1, rfl, by have := HB1.out; omega, by have := HB1.out; have := ORD.out; omega⟩
  case round =>
    obtain ⟨k, rfl, hk1, hk2⟩ := hrel
    by_cases hk : k < n
    · have hk' : (k : Int) < (n : Int) := by omega
      have ek := HBK.out k hk1 hk
      have P1 : Hid (Calls Try.prog 5 #[.int .u64 (k : Int)] w1 fun e w'' => e = .returned (.tuple #[.bool false, .int .i64 0]) ∧ w'' = w1) := by
        have := primeOf_any (w := w1) (n := k) (by have := ORD.out; omega)
        rw [ek] at this
        exact this
      have P2 : Hid (Calls Try.prog 7 #[.int .u64 (k : Int)] w1 fun e w'' => e = .returned (.bool false) ∧ w'' = w1) := by
        have := lawPrime12 (w := w1) (n := k) (by have := ORD.out; omega)
        rw [ek] at this
        exact this
      obtain ⟨k1, hk3⟩ : ∃ k1, k + 1 = k1 := ⟨_, rfl⟩
      have wk : IntKind.u64.wrap ((k : Int) + 1) = (k1 : Int) := by rw [← hk3]; exact uwrapN (x := k + 1) (by have := ORD.out; omega)
      have HK1 : Hid (b < k1 ∧ k1 ≤ n ∧ k1 = k + 1) := by unfold Hid; omega
      have HKK := hid hk
      clear ek hk1 hk2 hk3 hk
      go_wp2_with fail
      refine P1.out.mono ?_
      rintro e w9 ⟨rfl, hw9⟩
      have hw9' := hw9.symm
      subst hw9'
      clear hw9
      go_wp2_with fail
      refine P2.out.mono ?_
      rintro e w9 ⟨rfl, hw9⟩
      have hw9' := hw9.symm
      subst hw9'
      clear hw9
      go_wp2_with fail
      go_round
      case rel => exact ⟨k1, rfl, HK1.out.1, HK1.out.2.1⟩
      case measure => have := HK1.out; have := HKK.out; simp [intOf]; omega
    · have hk' : ¬ (k : Int) < (n : Int) := by omega
      go_wp2
      go_ret
      exact ⟨rfl, G.out⟩
set_option maxHeartbeats 1600000 in
set_option maxRecDepth 100000 in
theorem gap_4c {w : World} {n x y X2 Y2 Z : Nat} (hn3 : 3 ≤ n) (hn2 : n < 2147483648) (hx : x < 2147483648) (hy : y < 2147483648) (hZ : 2147483648 ≤ Z) (u1 : IntKind.u64.wrap (x : Int) = (x : Int)) (u2 : IntKind.u64.wrap (y : Int) = (y : Int)) (u3 : IntKind.u64.wrap ((x : Int) + 2) = (X2 : Int)) (u4 : IntKind.u64.wrap ((y : Int) + 2) = (Y2 : Int)) (u5 : IntKind.u64.wrap ((X2 : Int) * (Y2 : Int)) = (Z : Int)) :
    Calls Try.prog 3 #[.int .u64 (n : Int), .int .u32 (x : Int), .int .u32 (y : Int)] w fun e w' => e = .returned (.bool true) ∧ Below w.heap.size w w' := by
  have HW := hid (wakes12 w)
  have zx : decide ((x : Int) < 2147483648) = true := decide_eq_true (by omega)
  have zy : decide ((y : Int) < 2147483648) = true := decide_eq_true (by omega)
  have zz : decide ((Z : Int) < 2147483648) = false := decide_eq_false (by omega)
  obtain ⟨b, hb⟩ : ∃ b, blw n = b := ⟨_, rfl⟩
  obtain ⟨E, hE⟩ : ∃ E : Int, (if b = 0 then 6 else 0) = E := ⟨_, rfl⟩
  have HB : Hid (∀ w', Calls Try.prog 6 #[.int .u64 (n : Int)] w' fun e w'' => e = .returned (.tuple #[.int .u64 (b : Int), .int .i64 E]) ∧ w'' = w') := fun w' => by
    have := below_any (w := w') (n := n) (by omega)
    rw [hb, hE] at this
    exact this
  have n3 : decide ((2147483648 : Int) < (n : Int)) = false := decide_eq_false (by omega)
  have n1 : decide ((2147483648 : Int) ≤ (n : Int)) = false := decide_eq_false (by omega)
  have n2 : decide ((n : Int) < 2147483648) = true := decide_eq_true (by omega)
  obtain ⟨q, hq⟩ : ∃ q, prB n = q := ⟨_, rfl⟩
  have HP : Hid (∀ w', Calls Try.prog 5 #[.int .u64 (n : Int)] w' fun e w'' => e = .returned (.tuple #[.bool q, .int .i64 0]) ∧ w'' = w') := fun w' => by
    have := primeOf_any (w := w') (n := n) (by omega)
    rw [hq] at this
    exact this
  have HL : Hid (∀ w', Calls Try.prog 7 #[.int .u64 (n : Int)] w' fun e w'' => e = .returned (.bool q) ∧ w'' = w') := fun w' => by
    have := lawPrime12 (w := w') (n := n) (by omega)
    rw [hq] at this
    exact this
  have hqq : (q != q) = false := by simp
  clear hq
  have n4 : decide ((n : Int) < 3) = false := decide_eq_false (by omega)
  have hbp := blw_pos hn3
  rw [hb] at hbp
  obtain ⟨hb2, hbn, hbp, hbk⟩ := hbp
  rw [if_neg (by omega)] at hE
  subst hE
  have bn : decide ((n : Int) ≤ (b : Int)) = false := decide_eq_false (by omega)
  have HL2 : Hid (∀ w', Calls Try.prog 7 #[.int .u64 (b : Int)] w' fun e w'' => e = .returned (.bool true) ∧ w'' = w') := fun w' => by
    have := lawPrime12 (w := w') (n := b) (by omega)
    rw [hbp] at this
    exact this
  have HBK := hid hbk
  obtain ⟨b1, hb1⟩ : ∃ b1, b + 1 = b1 := ⟨_, rfl⟩
  have wb : IntKind.u64.wrap ((b : Int) + 1) = (b1 : Int) := by rw [← hb1]; exact uwrapN (x := b + 1) (by omega)
  have HB1 := hid hb1
  have WB := hid wb
  clear hb hbp hbk hb1 wb
  clear hx hy hZ
  have ORD : Hid (3 ≤ n ∧ n ≤ 2147483648 ∧ 2 ≤ b ∧ b < n) := ⟨hn3, by omega, hb2, hbn⟩
  clear hn3 hn2 hb2 hbn
  go_enter Try.func3, Try.ntmps3
  go_wp2_with fail
  refine HW.out.mono ?_
  rintro e w1 ⟨rfl, b1w⟩
  have G := hid b1w
  clear b1w HW
  go_wp2_with fail
  refine (HP.out _).mono ?_
  rintro e w9 ⟨rfl, hw9⟩
  have hw9' := hw9.symm
  subst hw9'
  clear hw9
  go_wp2_with fail
  refine (HB.out _).mono ?_
  rintro e w9 ⟨rfl, hw9⟩
  have hw9' := hw9.symm
  subst hw9'
  clear hw9
  go_wp2_with fail
  refine (HL.out _).mono ?_
  rintro e w9 ⟨rfl, hw9⟩
  have hw9' := hw9.symm
  subst hw9'
  clear hw9
  go_upto_if 88 with (fail)
  have q0 : ((0 : Int) != 0) = false := rfl
  have bn2 : ¬ (n : Int) ≤ (b : Int) := by have := ORD.out; omega
  go_wp2_with fail
  refine (HL2.out _).mono ?_
  rintro e w9 ⟨rfl, hw9⟩
  have hw9' := hw9.symm
  subst hw9'
  clear hw9
  clear HP HB HL2 n1 n2 n3 n4 bn bn2 zx zy zz HL hqq
  have wb := WB.out
  clear WB
  go_wp2_with fail
  go_loop [14] (fun s => ∃ k : Nat, s = .int .u64 (k : Int) ∧ b < k ∧ k ≤ n) (fun s => n - (intOf s).toNat)
  case atStart => exact ⟨b1, rfl, by have := HB1.out; omega, by have := HB1.out; have := ORD.out; omega⟩
  case round =>
    obtain ⟨k, rfl, hk1, hk2⟩ := hrel
    by_cases hk : k < n
    · have hk' : (k : Int) < (n : Int) := by omega
      have ek := HBK.out k hk1 hk
      have P1 : Hid (Calls Try.prog 5 #[.int .u64 (k : Int)] w1 fun e w'' => e = .returned (.tuple #[.bool false, .int .i64 0]) ∧ w'' = w1) := by
        have := primeOf_any (w := w1) (n := k) (by have := ORD.out; omega)
        rw [ek] at this
        exact this
      have P2 : Hid (Calls Try.prog 7 #[.int .u64 (k : Int)] w1 fun e w'' => e = .returned (.bool false) ∧ w'' = w1) := by
        have := lawPrime12 (w := w1) (n := k) (by have := ORD.out; omega)
        rw [ek] at this
        exact this
      obtain ⟨k1, hk3⟩ : ∃ k1, k + 1 = k1 := ⟨_, rfl⟩
      have wk : IntKind.u64.wrap ((k : Int) + 1) = (k1 : Int) := by rw [← hk3]; exact uwrapN (x := k + 1) (by have := ORD.out; omega)
      have HK1 : Hid (b < k1 ∧ k1 ≤ n ∧ k1 = k + 1) := by unfold Hid; omega
      have HKK := hid hk
      clear ek hk1 hk2 hk3 hk
      go_wp2_with fail
      refine P1.out.mono ?_
      rintro e w9 ⟨rfl, hw9⟩
      have hw9' := hw9.symm
      subst hw9'
      clear hw9
      go_wp2_with fail
      refine P2.out.mono ?_
      rintro e w9 ⟨rfl, hw9⟩
      have hw9' := hw9.symm
      subst hw9'
      clear hw9
      go_wp2_with fail
      go_round
      case rel => exact ⟨k1, rfl, HK1.out.1, HK1.out.2.1⟩
      case measure => have := HK1.out; have := HKK.out; simp [intOf]; omega
    · have hk' : ¬ (k : Int) < (n : Int) := by omega
      go_wp2
      go_ret
      exact ⟨rfl, G.out⟩
set_option maxHeartbeats 1600000 in
set_option maxRecDepth 100000 in
theorem gap_4d {w : World} {n x y X2 Y2 Z : Nat} (hn3 : 3 ≤ n) (hn2 : n < 2147483648) (hx : x < 2147483648) (hy : y < 2147483648) (hZ : Z < 2147483648) (hZp : prB Z = false) (u1 : IntKind.u64.wrap (x : Int) = (x : Int)) (u2 : IntKind.u64.wrap (y : Int) = (y : Int)) (u3 : IntKind.u64.wrap ((x : Int) + 2) = (X2 : Int)) (u4 : IntKind.u64.wrap ((y : Int) + 2) = (Y2 : Int)) (u5 : IntKind.u64.wrap ((X2 : Int) * (Y2 : Int)) = (Z : Int)) :
    Calls Try.prog 3 #[.int .u64 (n : Int), .int .u32 (x : Int), .int .u32 (y : Int)] w fun e w' => e = .returned (.bool true) ∧ Below w.heap.size w w' := by
  have HW := hid (wakes12 w)
  have zx : decide ((x : Int) < 2147483648) = true := decide_eq_true (by omega)
  have zy : decide ((y : Int) < 2147483648) = true := decide_eq_true (by omega)
  have zz : decide ((Z : Int) < 2147483648) = true := decide_eq_true (by omega)
  obtain ⟨b, hb⟩ : ∃ b, blw n = b := ⟨_, rfl⟩
  obtain ⟨E, hE⟩ : ∃ E : Int, (if b = 0 then 6 else 0) = E := ⟨_, rfl⟩
  have HB : Hid (∀ w', Calls Try.prog 6 #[.int .u64 (n : Int)] w' fun e w'' => e = .returned (.tuple #[.int .u64 (b : Int), .int .i64 E]) ∧ w'' = w') := fun w' => by
    have := below_any (w := w') (n := n) (by omega)
    rw [hb, hE] at this
    exact this
  have n3 : decide ((2147483648 : Int) < (n : Int)) = false := decide_eq_false (by omega)
  have n1 : decide ((2147483648 : Int) ≤ (n : Int)) = false := decide_eq_false (by omega)
  have n2 : decide ((n : Int) < 2147483648) = true := decide_eq_true (by omega)
  obtain ⟨q, hq⟩ : ∃ q, prB n = q := ⟨_, rfl⟩
  have HP : Hid (∀ w', Calls Try.prog 5 #[.int .u64 (n : Int)] w' fun e w'' => e = .returned (.tuple #[.bool q, .int .i64 0]) ∧ w'' = w') := fun w' => by
    have := primeOf_any (w := w') (n := n) (by omega)
    rw [hq] at this
    exact this
  have HL : Hid (∀ w', Calls Try.prog 7 #[.int .u64 (n : Int)] w' fun e w'' => e = .returned (.bool q) ∧ w'' = w') := fun w' => by
    have := lawPrime12 (w := w') (n := n) (by omega)
    rw [hq] at this
    exact this
  have hqq : (q != q) = false := by simp
  clear hq
  have n4 : decide ((n : Int) < 3) = false := decide_eq_false (by omega)
  have hbp := blw_pos hn3
  rw [hb] at hbp
  obtain ⟨hb2, hbn, hbp, hbk⟩ := hbp
  rw [if_neg (by omega)] at hE
  subst hE
  have bn : decide ((n : Int) ≤ (b : Int)) = false := decide_eq_false (by omega)
  have HL2 : Hid (∀ w', Calls Try.prog 7 #[.int .u64 (b : Int)] w' fun e w'' => e = .returned (.bool true) ∧ w'' = w') := fun w' => by
    have := lawPrime12 (w := w') (n := b) (by omega)
    rw [hbp] at this
    exact this
  have HBK := hid hbk
  obtain ⟨b1, hb1⟩ : ∃ b1, b + 1 = b1 := ⟨_, rfl⟩
  have wb : IntKind.u64.wrap ((b : Int) + 1) = (b1 : Int) := by rw [← hb1]; exact uwrapN (x := b + 1) (by omega)
  have HB1 := hid hb1
  have WB := hid wb
  clear hb hbp hbk hb1 wb
  have HZ : Hid (∀ w', Calls Try.prog 5 #[.int .u64 (Z : Int)] w' fun e w'' => e = .returned (.tuple #[.bool false, .int .i64 0]) ∧ w'' = w') := fun w' => by
    have := primeOf_any (w := w') (n := Z) hZ
    rw [hZp] at this
    exact this
  clear hZp
  clear hx hy hZ
  have ORD : Hid (3 ≤ n ∧ n ≤ 2147483648 ∧ 2 ≤ b ∧ b < n) := ⟨hn3, by omega, hb2, hbn⟩
  clear hn3 hn2 hb2 hbn
  go_enter Try.func3, Try.ntmps3
  go_wp2_with fail
  refine HW.out.mono ?_
  rintro e w1 ⟨rfl, b1w⟩
  have G := hid b1w
  clear b1w HW
  go_wp2_with fail
  refine (HP.out _).mono ?_
  rintro e w9 ⟨rfl, hw9⟩
  have hw9' := hw9.symm
  subst hw9'
  clear hw9
  go_wp2_with fail
  refine (HB.out _).mono ?_
  rintro e w9 ⟨rfl, hw9⟩
  have hw9' := hw9.symm
  subst hw9'
  clear hw9
  go_wp2_with fail
  refine (HL.out _).mono ?_
  rintro e w9 ⟨rfl, hw9⟩
  have hw9' := hw9.symm
  subst hw9'
  clear hw9
  go_wp2_with fail
  refine (HZ.out _).mono ?_
  rintro e w9 ⟨rfl, hw9⟩
  have hw9' := hw9.symm
  subst hw9'
  clear hw9
  go_upto_if 88 with (fail)
  have q0 : ((0 : Int) != 0) = false := rfl
  have bn2 : ¬ (n : Int) ≤ (b : Int) := by have := ORD.out; omega
  go_wp2_with fail
  refine (HL2.out _).mono ?_
  rintro e w9 ⟨rfl, hw9⟩
  have hw9' := hw9.symm
  subst hw9'
  clear hw9
  clear HP HB HL2 n1 n2 n3 n4 bn bn2 zx zy zz HZ HL hqq
  have wb := WB.out
  clear WB
  go_wp2_with fail
  go_loop [14] (fun s => ∃ k : Nat, s = .int .u64 (k : Int) ∧ b < k ∧ k ≤ n) (fun s => n - (intOf s).toNat)
  case atStart => exact ⟨b1, rfl, by have := HB1.out; omega, by have := HB1.out; have := ORD.out; omega⟩
  case round =>
    obtain ⟨k, rfl, hk1, hk2⟩ := hrel
    by_cases hk : k < n
    · have hk' : (k : Int) < (n : Int) := by omega
      have ek := HBK.out k hk1 hk
      have P1 : Hid (Calls Try.prog 5 #[.int .u64 (k : Int)] w1 fun e w'' => e = .returned (.tuple #[.bool false, .int .i64 0]) ∧ w'' = w1) := by
        have := primeOf_any (w := w1) (n := k) (by have := ORD.out; omega)
        rw [ek] at this
        exact this
      have P2 : Hid (Calls Try.prog 7 #[.int .u64 (k : Int)] w1 fun e w'' => e = .returned (.bool false) ∧ w'' = w1) := by
        have := lawPrime12 (w := w1) (n := k) (by have := ORD.out; omega)
        rw [ek] at this
        exact this
      obtain ⟨k1, hk3⟩ : ∃ k1, k + 1 = k1 := ⟨_, rfl⟩
      have wk : IntKind.u64.wrap ((k : Int) + 1) = (k1 : Int) := by rw [← hk3]; exact uwrapN (x := k + 1) (by have := ORD.out; omega)
      have HK1 : Hid (b < k1 ∧ k1 ≤ n ∧ k1 = k + 1) := by unfold Hid; omega
      have HKK := hid hk
      clear ek hk1 hk2 hk3 hk
      go_wp2_with fail
      refine P1.out.mono ?_
      rintro e w9 ⟨rfl, hw9⟩
      have hw9' := hw9.symm
      subst hw9'
      clear hw9
      go_wp2_with fail
      refine P2.out.mono ?_
      rintro e w9 ⟨rfl, hw9⟩
      have hw9' := hw9.symm
      subst hw9'
      clear hw9
      go_wp2_with fail
      go_round
      case rel => exact ⟨k1, rfl, HK1.out.1, HK1.out.2.1⟩
      case measure => have := HK1.out; have := HKK.out; simp [intOf]; omega
    · have hk' : ¬ (k : Int) < (n : Int) := by omega
      go_wp2
      go_ret
      exact ⟨rfl, G.out⟩
theorem modpGap_any {w : World} {n x y : Nat} (hn : n < 18446744073709551616) (hx : x < 4294967296) (hy : y < 4294967296) :
    Calls Try.prog 3 #[.int .u64 (n : Int), .int .u32 (x : Int), .int .u32 (y : Int)] w fun e w' => e = .returned (.bool true) ∧ Below w.heap.size w w' := by
  have u1 := uwrapN (x := x) (by omega)
  have u2 := uwrapN (x := y) (by omega)
  have u3 : IntKind.u64.wrap ((x : Int) + 2) = ((x + 2 : Nat) : Int) := uwrapN (x := x + 2) (by omega)
  have u4 : IntKind.u64.wrap ((y : Int) + 2) = ((y + 2 : Nat) : Int) := uwrapN (x := y + 2) (by omega)
  obtain ⟨Z, u5⟩ : ∃ Z : Nat, IntKind.u64.wrap (((x + 2 : Nat) : Int) * ((y + 2 : Nat) : Int)) = (Z : Int) := ⟨(IntKind.u64.wrap (((x + 2 : Nat) : Int) * ((y + 2 : Nat) : Int))).toNat, by rw [IntKind.wrap_u64]; omega⟩
  have hZp : x < 2147483648 → y < 2147483648 → prB Z = false := fun h1 h2 => by
    have h3 : (x + 2) * (y + 2) ≤ 2147483649 * 2147483649 := Nat.mul_le_mul (by omega) (by omega)
    have h4 := uwrapN (x := (x + 2) * (y + 2)) (by omega)
    rw [Int.natCast_mul, u5] at h4
    have h5 : Z = (x + 2) * (y + 2) := by
      have h6 : ((Z : Nat) : Int) = (((x + 2) * (y + 2) : Nat) : Int) := by rw [Int.natCast_mul]; exact h4
      omega
    rw [h5]
    exact prB_false (not_ispr_mul (by omega) (by omega))
  by_cases a1 : 2147483648 ≤ x
  · by_cases n1 : 2147483648 < n
    · exact gap_1a n1 a1 u1 u2 u3 u4 u5
    · by_cases n2 : n < 3
      · exact gap_3a n2 a1 u1 u2 u3 u4 u5
      · by_cases n3 : n < 2147483648
        · exact gap_4a (by omega) n3 a1 u1 u2 u3 u4 u5
        · exact gap_2a (by omega) (by omega) (by omega) a1 u1 u2 u3 u4 u5
  · by_cases a2 : 2147483648 ≤ y
    · by_cases n1 : 2147483648 < n
      · exact gap_1b n1 (by omega) a2 u1 u2 u3 u4 u5
      · by_cases n2 : n < 3
        · exact gap_3b n2 (by omega) a2 u1 u2 u3 u4 u5
        · by_cases n3 : n < 2147483648
          · exact gap_4b (by omega) n3 (by omega) a2 u1 u2 u3 u4 u5
          · exact gap_2b (by omega) (by omega) (by omega) (by omega) a2 u1 u2 u3 u4 u5
    · by_cases a3 : 2147483648 ≤ Z
      · by_cases n1 : 2147483648 < n
        · exact gap_1c n1 (by omega) (by omega) a3 u1 u2 u3 u4 u5
        · by_cases n2 : n < 3
          · exact gap_3c n2 (by omega) (by omega) a3 u1 u2 u3 u4 u5
          · by_cases n3 : n < 2147483648
            · exact gap_4c (by omega) n3 (by omega) (by omega) a3 u1 u2 u3 u4 u5
            · exact gap_2c (by omega) (by omega) (by omega) (by omega) (by omega) a3 u1 u2 u3 u4 u5
      · by_cases n1 : 2147483648 < n
        · exact gap_1d n1 (by omega) (by omega) (by omega) (hZp (by omega) (by omega)) u1 u2 u3 u4 u5
        · by_cases n2 : n < 3
          · exact gap_3d n2 (by omega) (by omega) (by omega) (hZp (by omega) (by omega)) u1 u2 u3 u4 u5
          · by_cases n3 : n < 2147483648
            · exact gap_4d (by omega) n3 (by omega) (by omega) (by omega) (hZp (by omega) (by omega)) u1 u2 u3 u4 u5
            · exact gap_2d (by omega) (by omega) (by omega) (by omega) (by omega) (by omega) (hZp (by omega) (by omega)) u1 u2 u3 u4 u5
end Go.Proofs.Ytonmlmdnjjafhaa
