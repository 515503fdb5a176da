/-
  RPureToRPow: RPure, RPow, joined.
-/
import Derived.Test.YtnbjlpeclaieeaaRAdd

/- RPure -/
namespace Go.Proofs.Ytnbjlpeclaieeaa
open Go.RowKit

theorem dpw_pow : ∀ k, dpw k = ((2 ^ (16 * k) : Nat) : Int)
  | 0 => rfl
  | k + 1 => by rw [dpw, dpw_pow k, show 16 * (k + 1) = 16 + 16 * k by omega, Nat.pow_add]; unfold dwB; omega
theorem dval_dn {X : List Int} (hX : DF X) : ∃ V : Nat, dval X = (V : Int) ∧ V < 2 ^ (16 * X.length) := by
  have h0 := dval_nonneg hX
  have h1 := dval_lt_pw hX
  rw [dpw_pow] at h1
  obtain ⟨V, hV⟩ := Int.eq_ofNat_of_zero_le h0
  exact ⟨V, hV, by rw [hV] at h1; omega⟩
/-- The number of a list of digits taken apart at one of them. -/
theorem at_digit {X : List Int} (hX : DF X) {i : Nat} (h : i < X.length) {V : Nat} (hV : dval X = (V : Int)) : ∃ A C : Nat, A < 2 ^ (16 * i) ∧ V = A + 2 ^ (16 * i) * ((X.getD i 0).toNat + 65536 * C) ∧ dval (X.take i) = (A : Int) ∧ dval (X.drop (i + 1)) = (C : Int) := by
  obtain ⟨A, hA, hA2⟩ := dval_dn (hX.take i)
  rw [List.length_take, Nat.min_eq_left (by omega)] at hA2
  obtain ⟨C, hC, _⟩ := dval_dn (hX.drop (i + 1))
  have hx := dig_get hX i
  have e := dval_append (X.take i) (X.drop i)
  rw [List.take_append_drop, List.length_take, Nat.min_eq_left (by omega), List.drop_eq_getElem_cons h, dval, hA, hC, hV, dpw_pow] at e
  have hg : X.getD i 0 = X[i] := by simp [h]
  rw [← hg] at e
  refine ⟨A, C, hA2, ?_, hA, hC⟩
  generalize X.getD i 0 = x at *
  obtain ⟨x', rfl⟩ := Int.eq_ofNat_of_zero_le hx.1
  unfold dwB at e
  have : ((2 ^ (16 * i) * (x' + 65536 * C) : Nat) : Int) = ((2 ^ (16 * i) : Nat) : Int) * ((x' : Int) + 65536 * (C : Int)) := by rw [Int.natCast_mul]; rfl
  rw [← this] at e
  simp only [Int.toNat_natCast]
  omega
end Go.Proofs.Ytnbjlpeclaieeaa

/- RPow -/
namespace Go.Proofs.Ytnbjlpeclaieeaa
open Go.RowKit

theorem power_any (k : Nat) (hk : k ≤ 16) (w : World) :
    Calls Try.prog 54 #[.int .i64 (k : Int)] w fun e w' => e = .returned (.int .i64 ((2 ^ k : Nat) : Int)) ∧ w' = w := by
  obtain ⟨T, hT⟩ : ∃ T : Nat, T = 2 ^ k := ⟨_, rfl⟩
  have HT := hid hT
  rw [← hT]
  clear hT
  go_enter Try.func54, Try.ntmps54
  go_wp2
  go_loop [3, 4] (fun p i => ∃ n P : Nat, n ≤ k ∧ i = .int .i64 n ∧ p = .int .i64 (P : Int) ∧ P ≤ 65536 ∧ Hid (P = 2 ^ n)) (fun _ i => k - (intOf i).toNat)
  case atStart => exact ⟨0, 1, Nat.zero_le _, rfl, rfl, by omega, rfl⟩
  case round =>
    obtain ⟨n, P, hn, rfl, rfl, hP, HP⟩ := hrel
    by_cases hlt : n < k
    · have hP2 : Hid (2 * P = 2 ^ (n + 1)) := by unfold Hid; rw [HP.out, Nat.pow_succ]; omega
      have hP3 : 2 * P ≤ 65536 := by
        rw [hP2.out]
        exact Nat.le_trans (Nat.pow_le_pow_right (by omega) (show n + 1 ≤ 16 by omega)) (by decide)
      go_wp2
      go_round
      case rel => exact ⟨n + 1, 2 * P, by omega, by go_num, by go_num, hP3, hP2.out⟩
      case measure => simp [intOf]; omega
    · obtain rfl : n = k := by omega
      go_wp2
      go_ret
      exact ⟨by rw [HT.out, ← HP.out]; rfl, rfl⟩

/-- What the reference's calls with an error answer, where they answer. -/
def Told2 (w : World) (s : Int) (e : Ending) (w' : World) : Prop := ∃ zs r, e = .returned (.tuple #[r, .int .i64 0]) ∧ Own w.heap.size w' r zs ∧ Canon zs ∧ val zs = s ∧ Below w.heap.size w w'

theorem power_at {i : Int} (k : Nat) (hi : i = (k : Int)) (hk : k ≤ 16) (w : World) :
    Calls Try.prog 54 #[.int .i64 i] w fun e w' => e = .returned (.int .i64 ((2 ^ k : Nat) : Int)) ∧ w' = w := by subst hi; exact power_any k hk w
theorem dpw_add : ∀ a b, dpw (a + b) = dpw a * dpw b
  | 0, b => by simp [dpw]
  | a + 1, b => by rw [show a + 1 + b = a + b + 1 by omega, dpw, dpw, dpw_add a b, Int.mul_assoc]
theorem two_split16 (n : Nat) : ((2 ^ n : Nat) : Int) = dpw (n / 16) * ((2 ^ (n % 16) : Nat) : Int) := by
  rw [dpw_pow, ← Int.natCast_mul, ← Nat.pow_add, show 16 * (n / 16) + n % 16 = n by omega]
theorem pow16_le {p : Nat} (hp : p < 16) : 1 ≤ 2 ^ p ∧ 2 ^ p ≤ 32768 := ⟨Nat.two_pow_pos p, Nat.le_trans (Nat.pow_le_pow_right (by omega) (show p ≤ 15 by omega)) (by decide)⟩

theorem ddrop_div {X : List Int} (hX : DF X) {M : Nat} (hM : M ≤ X.length) {V : Nat} (hV : dval X = (V : Int)) : dval (X.drop M) = ((V / 2 ^ (16 * M) : Nat) : Int) := by
  have e := dval_append (X.take M) (X.drop M)
  rw [List.take_append_drop, List.length_take, Nat.min_eq_left hM, dpw_pow] at e
  obtain ⟨A, hA, hA2⟩ := dval_dn (hX.take M)
  rw [List.length_take, Nat.min_eq_left hM] at hA2
  obtain ⟨C, hC, _⟩ := dval_dn (hX.drop M)
  rw [hA, hC, hV] at e
  rw [hC]
  have e2 : V = A + 2 ^ (16 * M) * C := by rw [← Int.natCast_mul] at e; omega
  rw [e2, Nat.add_mul_div_left _ _ (Nat.two_pow_pos _), Nat.div_eq_of_lt hA2]; simp
theorem div_zero_of {V n l : Nat} (h : V < 2 ^ (16 * l)) (hl : l ≤ n / 16) : V / 2 ^ n = 0 :=
  Nat.div_eq_of_lt (Nat.lt_of_lt_of_le h (Nat.pow_le_pow_right (by omega) (by omega)))
theorem div_two {V n : Nat} : V / 2 ^ (16 * (n / 16)) / 2 ^ (n % 16) = V / 2 ^ n := by
  rw [Nat.div_div_eq_div_mul, ← Nat.pow_add, show 16 * (n / 16) + n % 16 = n by omega]

end Go.Proofs.Ytnbjlpeclaieeaa
