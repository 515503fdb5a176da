/-
  Shift: a word shifted, by its number; powers of two and place values; a slice that a call made.
-/
import Derived.Test.YtachdicdfhfoaaaQBits
import Derived.Test.YtachdicdfhfoaaaQKey10ToCarry
import Derived.Shelf.Spec.TrailingZeros
namespace Go.Proofs.Ytachdicdfhfoaaa
open Go.RowKit

theorem pw_pow : ∀ k, pw k = 2 ^ (64 * k)
  | 0 => by simp [pw]
  | k + 1 => by rw [pw, pw_pow k, show 64 * (k + 1) = 64 + 64 * k by omega, Int.pow_add]; rfl
theorem pw_add (a b : Nat) : pw (a + b) = pw a * pw b := by rw [pw_pow, pw_pow, pw_pow, Nat.mul_add, Int.pow_add]
theorem two_split (n : Nat) : (2 : Int) ^ n = pw (n / 64) * 2 ^ (n % 64) := by rw [pw_pow, ← Int.pow_add, show 64 * (n / 64) + n % 64 = n by omega]

theorem bits_or_nat (a b : Nat) (ha : a < 18446744073709551616) (hb : b < 18446744073709551616) : bits .or .u64 (a : Int) (b : Int) = ((a ||| b : Nat) : Int) := by
  have hx : a ||| b < 2 ^ 64 := Nat.or_lt_two_pow ha hb
  have h1 : (BitVec.ofInt 64 (a : Int)).toNat = a := by
    rw [BitVec.ofInt_natCast, BitVec.toNat_ofNat]; exact Nat.mod_eq_of_lt (by omega)
  have h2 : (BitVec.ofInt 64 (b : Int)).toNat = b := by
    rw [BitVec.ofInt_natCast, BitVec.toNat_ofNat]; exact Nat.mod_eq_of_lt (by omega)
  show IntKind.u64.wrap ((BitVec.ofInt 64 (a : Int) ||| BitVec.ofInt 64 (b : Int)).toNat : Int) = _
  rw [BitVec.toNat_or, h1, h2, IntKind.wrap_u64]
  omega
theorem pow_split {p : Nat} (hp : p ≤ 64) : 2 ^ p * 2 ^ (64 - p) = 18446744073709551616 := by rw [← Nat.pow_add, show p + (64 - p) = 64 by omega]
theorem cast_pow (p : Nat) : (2 : Int) ^ p = ((2 ^ p : Nat) : Int) := by simp

/-- A word to the left, the spill of the one below it put in. -/
theorem shl_word {x c : Int} {p : Nat} (hx : IsW x) (hp : p < 64) (hc0 : 0 ≤ c) (hc : c < 2 ^ p) :
    IsW (bits BinOp.or IntKind.u64 (IntKind.u64.wrap (x * 2 ^ p)) c) ∧ 0 ≤ x / 2 ^ (64 - p) ∧ x / 2 ^ (64 - p) < 2 ^ p ∧
      bits BinOp.or IntKind.u64 (IntKind.u64.wrap (x * 2 ^ p)) c + wB * (x / 2 ^ (64 - p)) = 0 + x * 2 ^ p + c := by
  have hl := toNat_lt hx
  obtain ⟨X, rfl⟩ := Int.eq_ofNat_of_zero_le hx.1
  obtain ⟨C, rfl⟩ := Int.eq_ofNat_of_zero_le hc0
  simp only [Int.toNat_natCast] at hl
  have hs := pow_split (p := p) (by omega)
  have hpp := Nat.two_pow_pos p
  have hqp := Nat.two_pow_pos (64 - p)
  rw [cast_pow p, cast_pow (64 - p)] at *
  generalize hP : 2 ^ p = P at *
  generalize hQ : 2 ^ (64 - p) = Q at *
  have hC : C < P := by omega
  have hm : X * P % 18446744073709551616 = P * (X % Q) := by rw [← hs, Nat.mul_comm X P, Nat.mul_mod_mul_left]
  have hXQ : X % Q < Q := Nat.mod_lt _ hqp
  have hle : P * (X % Q) + P ≤ 18446744073709551616 := by
    rw [← hs, ← Nat.mul_succ]; exact Nat.mul_le_mul_left _ hXQ
  have hw : IntKind.u64.wrap ((X : Int) * (P : Int)) = ((P * (X % Q) : Nat) : Int) := by
    rw [IntKind.wrap_u64, ← hm]; simp
  have ho : P * (X % Q) ||| C = P * (X % Q) + C := by
    subst hP; exact (Nat.two_pow_add_eq_or_of_lt (by omega) _).symm
  have hd : (X : Int) / (Q : Int) = ((X / Q : Nat) : Int) := by simp
  rw [hw, bits_or_nat _ _ (by omega) (by omega), ho, hd]
  have hXd : X / Q < P := by rw [Nat.div_lt_iff_lt_mul hqp, hs]; exact hl
  have hmain : P * (X % Q) + 18446744073709551616 * (X / Q) = X * P := by
    have := Nat.mod_add_div X Q
    rw [← hs, Nat.mul_assoc, ← Nat.mul_add, this, Nat.mul_comm]
  refine ⟨by unfold IsW wB; omega, by omega, by omega, ?_⟩
  have : ((P * (X % Q) + 18446744073709551616 * (X / Q) : Nat) : Int) = ((X * P : Nat) : Int) := by rw [hmain]
  unfold wB
  rw [← Int.natCast_mul]
  omega
/-- A word to the right, the low digits of the one above it put in. -/
theorem shr_word {x y : Int} {p : Nat} (hx : IsW x) (hy : IsW y) (hp : p < 64) :
    IsW (bits BinOp.or IntKind.u64 (x / 2 ^ p) (IntKind.u64.wrap (y * 2 ^ (64 - p)))) ∧
      2 ^ p * bits BinOp.or IntKind.u64 (x / 2 ^ p) (IntKind.u64.wrap (y * 2 ^ (64 - p))) = x - x % 2 ^ p + wB * (y % 2 ^ p) := by
  have hl := toNat_lt hx
  have hl' := toNat_lt hy
  obtain ⟨X, rfl⟩ := Int.eq_ofNat_of_zero_le hx.1
  obtain ⟨Y, rfl⟩ := Int.eq_ofNat_of_zero_le hy.1
  simp only [Int.toNat_natCast] at hl hl'
  have hs := pow_split (p := p) (by omega)
  have hpp := Nat.two_pow_pos p
  have hqp := Nat.two_pow_pos (64 - p)
  rw [cast_pow p, cast_pow (64 - p)] at *
  generalize hP : 2 ^ p = P at *
  generalize hQ : 2 ^ (64 - p) = Q at *
  have hm : Y * Q % 18446744073709551616 = Q * (Y % P) := by rw [← hs, Nat.mul_comm P Q, Nat.mul_comm Y Q, Nat.mul_mod_mul_left]
  have hYP : Y % P < P := Nat.mod_lt _ hpp
  have hle : Q * (Y % P) + Q ≤ 18446744073709551616 := by
    rw [← hs, Nat.mul_comm P Q, ← Nat.mul_succ]; exact Nat.mul_le_mul_left _ hYP
  have hw : IntKind.u64.wrap ((Y : Int) * (Q : Int)) = ((Q * (Y % P) : Nat) : Int) := by
    rw [IntKind.wrap_u64, ← hm]; simp
  have hXd : X / P < Q := by rw [Nat.div_lt_iff_lt_mul hpp, Nat.mul_comm, hs]; exact hl
  have ho : X / P ||| Q * (Y % P) = Q * (Y % P) + X / P := by
    rw [Nat.or_comm]; subst hQ; exact (Nat.two_pow_add_eq_or_of_lt hXd _).symm
  have hd : (X : Int) / (P : Int) = ((X / P : Nat) : Int) := by simp
  rw [hw, hd, bits_or_nat _ _ (by omega) (by omega), ho]
  refine ⟨by unfold IsW wB; omega, ?_⟩
  have h1 := Nat.div_add_mod X P
  have h2 : P * (Q * (Y % P) + X / P) = 18446744073709551616 * (Y % P) + P * (X / P) := by rw [Nat.mul_add, ← Nat.mul_assoc, hs]
  have h3 : (X : Int) % (P : Int) = ((X % P : Nat) : Int) := by simp
  have h4 : (Y : Int) % (P : Int) = ((Y % P : Nat) : Int) := by simp
  rw [h3, h4, ← Int.natCast_mul, h2]
  unfold wB
  omega

/-- A slice that a call made itself: nil, or at the head of a row from block B on, its spare room in that row. -/
def Own (B : Nat) (w : World) (v : Value) (zs : List Int) : Prop :=
  WF zs ∧ ((v = .slice none 0 0 ∧ zs = []) ∨ ∃ g r, B ≤ g ∧ zs.length + r.length ≤ 35184372088832 ∧ v = .slice (some ⟨g, 0, none⟩) zs.length (zs.length + r.length) ∧ Row w g (ws zs ++ r))
theorem Own.form {B : Nat} {w : World} {v : Value} {zs : List Int} (h : Own B w v zs) : ∃ a cap, v = .slice a zs.length cap := by
  obtain ⟨_, ⟨h1, h2⟩ | ⟨g, r, _, _, h1, _⟩⟩ := h
  · subst h2; exact ⟨none, 0, h1⟩
  · exact ⟨_, _, h1⟩
theorem Own.sl {B : Nat} {w : World} {v : Value} {zs : List Int} (h : Own B w v zs) : Sl w.heap.size w v zs := by
  obtain ⟨hw, ⟨h1, h2⟩ | ⟨g, r, h1, h2, h3, h4⟩⟩ := h
  · subst h1 h2; exact Sl.nilAt w
  · subst h3
    exact h4.sl hw (by omega) h2 h4.lt
end Go.Proofs.Ytachdicdfhfoaaa
