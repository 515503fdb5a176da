/-
  QShiftToDivWord: Shift, Div64, DivWord, joined.
-/
import Derived.Test.YtdfnehngffajiabDoorQByteRowToBits
import Derived.Test.YtdfnehngffajiabDoorQCarryToMade
import Derived.Shelf.Spec.TrailingZeros
import Derived.Test.YtdfnehngffajiabDoorQLen2ToDivPure
import Derived.Shelf.Bits.Mul64

/- Shift -/
namespace Go.Proofs.YtdfnehngffajiabDoor
open Go.RowKit

theorem pw_pow : ∀ k, pw k = 2 ^ (64 * k)
  | 0 => by simp [pw]
  | k + 1 => by rw [pw, pw_pow k, show 64 * (k + 1) = 64 + 64 * k by omega, Int.pow_add]; rfl
theorem pw_add (a b : Nat) : pw (a + b) = pw a * pw b := by rw [pw_pow, pw_pow, pw_pow, Nat.mul_add, Int.pow_add]
theorem two_split (n : Nat) : (2 : Int) ^ n = pw (n / 64) * 2 ^ (n % 64) := by rw [pw_pow, ← Int.pow_add, show 64 * (n / 64) + n % 64 = n by omega]

theorem bits_or_nat (a b : Nat) (ha : a < 18446744073709551616) (hb : b < 18446744073709551616) : bits .or .u64 (a : Int) (b : Int) = ((a ||| b : Nat) : Int) := by
  have hx : a ||| b < 2 ^ 64 := Nat.or_lt_two_pow ha hb
  have h1 : (BitVec.ofInt 64 (a : Int)).toNat = a := by
    rw [BitVec.ofInt_natCast, BitVec.toNat_ofNat]; exact Nat.mod_eq_of_lt (by omega)
  have h2 : (BitVec.ofInt 64 (b : Int)).toNat = b := by
    rw [BitVec.ofInt_natCast, BitVec.toNat_ofNat]; exact Nat.mod_eq_of_lt (by omega)
  show IntKind.u64.wrap ((BitVec.ofInt 64 (a : Int) ||| BitVec.ofInt 64 (b : Int)).toNat : Int) = _
  rw [BitVec.toNat_or, h1, h2, IntKind.wrap_u64]
  omega
theorem pow_split {p : Nat} (hp : p ≤ 64) : 2 ^ p * 2 ^ (64 - p) = 18446744073709551616 := by rw [← Nat.pow_add, show p + (64 - p) = 64 by omega]
theorem cast_pow (p : Nat) : (2 : Int) ^ p = ((2 ^ p : Nat) : Int) := by simp

/-- A word to the left, the spill of the one below it put in. -/
theorem shl_word {x c : Int} {p : Nat} (hx : IsW x) (hp : p < 64) (hc0 : 0 ≤ c) (hc : c < 2 ^ p) :
    IsW (bits BinOp.or IntKind.u64 (IntKind.u64.wrap (x * 2 ^ p)) c) ∧ 0 ≤ x / 2 ^ (64 - p) ∧ x / 2 ^ (64 - p) < 2 ^ p ∧
      bits BinOp.or IntKind.u64 (IntKind.u64.wrap (x * 2 ^ p)) c + wB * (x / 2 ^ (64 - p)) = 0 + x * 2 ^ p + c := by
  have hl := toNat_lt hx
  obtain ⟨X, rfl⟩ := Int.eq_ofNat_of_zero_le hx.1
  obtain ⟨C, rfl⟩ := Int.eq_ofNat_of_zero_le hc0
  simp only [Int.toNat_natCast] at hl
  have hs := pow_split (p := p) (by omega)
  have hpp := Nat.two_pow_pos p
  have hqp := Nat.two_pow_pos (64 - p)
  rw [cast_pow p, cast_pow (64 - p)] at *
  generalize hP : 2 ^ p = P at *
  generalize hQ : 2 ^ (64 - p) = Q at *
  have hC : C < P := by omega
  have hm : X * P % 18446744073709551616 = P * (X % Q) := by rw [← hs, Nat.mul_comm X P, Nat.mul_mod_mul_left]
  have hXQ : X % Q < Q := Nat.mod_lt _ hqp
  have hle : P * (X % Q) + P ≤ 18446744073709551616 := by
    rw [← hs, ← Nat.mul_succ]; exact Nat.mul_le_mul_left _ hXQ
  have hw : IntKind.u64.wrap ((X : Int) * (P : Int)) = ((P * (X % Q) : Nat) : Int) := by
    rw [IntKind.wrap_u64, ← hm]; simp
  have ho : P * (X % Q) ||| C = P * (X % Q) + C := by
    subst hP; exact (Nat.two_pow_add_eq_or_of_lt (by omega) _).symm
  have hd : (X : Int) / (Q : Int) = ((X / Q : Nat) : Int) := by simp
  rw [hw, bits_or_nat _ _ (by omega) (by omega), ho, hd]
  have hXd : X / Q < P := by rw [Nat.div_lt_iff_lt_mul hqp, hs]; exact hl
  have hmain : P * (X % Q) + 18446744073709551616 * (X / Q) = X * P := by
    have := Nat.mod_add_div X Q
    rw [← hs, Nat.mul_assoc, ← Nat.mul_add, this, Nat.mul_comm]
  refine ⟨by unfold IsW wB; omega, by omega, by omega, ?_⟩
  have : ((P * (X % Q) + 18446744073709551616 * (X / Q) : Nat) : Int) = ((X * P : Nat) : Int) := by rw [hmain]
  unfold wB
  rw [← Int.natCast_mul]
  omega
/-- A word to the right, the low digits of the one above it put in. -/
theorem shr_word {x y : Int} {p : Nat} (hx : IsW x) (hy : IsW y) (hp : p < 64) :
    IsW (bits BinOp.or IntKind.u64 (x / 2 ^ p) (IntKind.u64.wrap (y * 2 ^ (64 - p)))) ∧
      2 ^ p * bits BinOp.or IntKind.u64 (x / 2 ^ p) (IntKind.u64.wrap (y * 2 ^ (64 - p))) = x - x % 2 ^ p + wB * (y % 2 ^ p) := by
  have hl := toNat_lt hx
  have hl' := toNat_lt hy
  obtain ⟨X, rfl⟩ := Int.eq_ofNat_of_zero_le hx.1
  obtain ⟨Y, rfl⟩ := Int.eq_ofNat_of_zero_le hy.1
  simp only [Int.toNat_natCast] at hl hl'
  have hs := pow_split (p := p) (by omega)
  have hpp := Nat.two_pow_pos p
  have hqp := Nat.two_pow_pos (64 - p)
  rw [cast_pow p, cast_pow (64 - p)] at *
  generalize hP : 2 ^ p = P at *
  generalize hQ : 2 ^ (64 - p) = Q at *
  have hm : Y * Q % 18446744073709551616 = Q * (Y % P) := by rw [← hs, Nat.mul_comm P Q, Nat.mul_comm Y Q, Nat.mul_mod_mul_left]
  have hYP : Y % P < P := Nat.mod_lt _ hpp
  have hle : Q * (Y % P) + Q ≤ 18446744073709551616 := by
    rw [← hs, Nat.mul_comm P Q, ← Nat.mul_succ]; exact Nat.mul_le_mul_left _ hYP
  have hw : IntKind.u64.wrap ((Y : Int) * (Q : Int)) = ((Q * (Y % P) : Nat) : Int) := by
    rw [IntKind.wrap_u64, ← hm]; simp
  have hXd : X / P < Q := by rw [Nat.div_lt_iff_lt_mul hpp, Nat.mul_comm, hs]; exact hl
  have ho : X / P ||| Q * (Y % P) = Q * (Y % P) + X / P := by
    rw [Nat.or_comm]; subst hQ; exact (Nat.two_pow_add_eq_or_of_lt hXd _).symm
  have hd : (X : Int) / (P : Int) = ((X / P : Nat) : Int) := by simp
  rw [hw, hd, bits_or_nat _ _ (by omega) (by omega), ho]
  refine ⟨by unfold IsW wB; omega, ?_⟩
  have h1 := Nat.div_add_mod X P
  have h2 : P * (Q * (Y % P) + X / P) = 18446744073709551616 * (Y % P) + P * (X / P) := by rw [Nat.mul_add, ← Nat.mul_assoc, hs]
  have h3 : (X : Int) % (P : Int) = ((X % P : Nat) : Int) := by simp
  have h4 : (Y : Int) % (P : Int) = ((Y % P : Nat) : Int) := by simp
  rw [h3, h4, ← Int.natCast_mul, h2]
  unfold wB
  omega

/-- A slice that a call made itself: nil, or at the head of a row from block B on, its spare room in that row. -/
def Own (B : Nat) (w : World) (v : Value) (zs : List Int) : Prop :=
  WF zs ∧ ((v = .slice none 0 0 ∧ zs = []) ∨ ∃ g r, B ≤ g ∧ zs.length + r.length ≤ 35184372088832 ∧ v = .slice (some ⟨g, 0, none⟩) zs.length (zs.length + r.length) ∧ Row w g (ws zs ++ r))
theorem Own.form {B : Nat} {w : World} {v : Value} {zs : List Int} (h : Own B w v zs) : ∃ a cap, v = .slice a zs.length cap := by
  obtain ⟨_, ⟨h1, h2⟩ | ⟨g, r, _, _, h1, _⟩⟩ := h
  · subst h2; exact ⟨none, 0, h1⟩
  · exact ⟨_, _, h1⟩
theorem Own.sl {B : Nat} {w : World} {v : Value} {zs : List Int} (h : Own B w v zs) : Sl w.heap.size w v zs := by
  obtain ⟨hw, ⟨h1, h2⟩ | ⟨g, r, h1, h2, h3, h4⟩⟩ := h
  · subst h1 h2; exact Sl.nilAt w
  · subst h3
    exact h4.sl hw (by omega) h2 h4.lt
end Go.Proofs.YtdfnehngffajiabDoor

/- Div64 -/
namespace Go.Proofs.YtdfnehngffajiabDoor
open Go.RowKit
set_option linter.unusedVariables false

/-- The dividend's three pieces, gone up by s places. -/
theorem div_up {x lo y s : Nat} (hl : lo < 18446744073709551616) (hxy : x < y) (hs : s < 64) (hY : y * 2 ^ s < 18446744073709551616) :
    ∃ u un : Nat, bits BinOp.or IntKind.u64 (IntKind.u64.wrap ((x : Int) * 2 ^ s)) ((lo : Int) / 2 ^ (64 - s)) = (u : Int) ∧ IntKind.u64.wrap ((lo : Int) * 2 ^ s) = (un : Int) ∧ un < 18446744073709551616 ∧
      u * 18446744073709551616 + un = (x * 18446744073709551616 + lo) * 2 ^ s ∧ u < y * 2 ^ s := by
  have hp := Nat.two_pow_pos s
  have hq := Nat.two_pow_pos (64 - s)
  have hsp := pow_split (p := s) (by omega)
  have hc : lo / 2 ^ (64 - s) < 2 ^ s := by rw [Nat.div_lt_iff_lt_mul hq, hsp]; exact hl
  have hxP : x * 2 ^ s + 2 ^ s ≤ y * 2 ^ s := by rw [← Nat.succ_mul]; exact Nat.mul_le_mul_right _ hxy
  have hx64 : x < 18446744073709551616 := by
    have : x * 1 ≤ x * 2 ^ s := Nat.mul_le_mul_left _ hp
    omega
  have e1 : IntKind.u64.wrap ((x : Int) * 2 ^ s) = ((x * 2 ^ s : Nat) : Int) := by
    rw [cast_pow, ← Int.natCast_mul]; exact Mul64.wrapN _ (by omega)
  have e2 : (lo : Int) / 2 ^ (64 - s) = ((lo / 2 ^ (64 - s) : Nat) : Int) := by rw [cast_pow]; simp
  have e3 : x * 2 ^ s ||| lo / 2 ^ (64 - s) = x * 2 ^ s + lo / 2 ^ (64 - s) := by rw [Nat.mul_comm]; exact (Nat.two_pow_add_eq_or_of_lt hc _).symm
  have e4 : IntKind.u64.wrap ((lo : Int) * 2 ^ s) = ((lo * 2 ^ s % 18446744073709551616 : Nat) : Int) := by
    rw [cast_pow, ← Int.natCast_mul]; exact Mul64.wrapM _
  have e5 : lo * 2 ^ s / 18446744073709551616 = lo / 2 ^ (64 - s) := by
    rw [← hsp, Nat.mul_comm (2 ^ s), Nat.mul_div_mul_right _ _ hp]
  refine ⟨x * 2 ^ s + lo / 2 ^ (64 - s), lo * 2 ^ s % 18446744073709551616, ?_, e4, Nat.mod_lt _ (by omega), ?_, by omega⟩
  · rw [e1, e2, bits_or_nat _ _ (by omega) (by omega), e3]
  · rw [← e5]
    have e6 := Nat.div_add_mod (lo * 2 ^ s) 18446744073709551616
    have e7 : (x * 18446744073709551616 + lo) * 2 ^ s = x * 2 ^ s * 18446744073709551616 + lo * 2 ^ s := by rw [Nat.add_mul, Nat.mul_right_comm]
    rw [e7, Nat.add_mul]
    obtain ⟨L, hL⟩ : ∃ L, L = lo * 2 ^ s := ⟨_, rfl⟩
    rw [← hL] at e6 ⊢
    rw [Nat.add_assoc, Nat.mul_comm (L / 18446744073709551616), e6]

theorem div_begin {v y1 : Nat} (hv : v < 18446744073709551616) (h1 : 0 < y1) : ∃ q r : Nat, (v : Int).tdiv (y1 : Int) = (q : Int) ∧ (v : Int) / (y1 : Int) = (q : Int) ∧ IntKind.u64.wrap (q : Int) = (q : Int) ∧ IntKind.u64.wrap ((q : Int) * (y1 : Int)) = ((q * y1 : Nat) : Int) ∧
    IntKind.u64.wrap ((v : Int) - (q : Int) * (y1 : Int)) = (r : Int) ∧ q ≤ v ∧ r < y1 ∧ q = v / y1 ∧ r = v % y1 := by
  have q1 := Nat.div_le_self v y1
  have q2 := Nat.div_add_mod v y1
  have q3 := Nat.mod_lt v h1
  rw [Nat.mul_comm] at q2
  refine ⟨v / y1, v % y1, (Int.ofNat_tdiv v y1).symm, by simp, Mul64.wrapN _ (by omega), ?_, ?_, q1, q3, rfl, rfl⟩
  · rw [← Int.natCast_mul]; exact Mul64.wrapN _ (by omega)
  · rw [← Int.natCast_mul, show (v : Int) - ((v / y1 * y1 : Nat) : Int) = ((v % y1 : Nat) : Int) by omega]; exact Mul64.wrapN _ (by omega)
theorem up_rest {u d k Y v : Nat} (h : k * Y + v = u * 4294967296 + d) (hv : v < 18446744073709551616) :
    IntKind.u64.wrap (IntKind.u64.wrap (IntKind.u64.wrap ((u : Int) * 4294967296) + (d : Int)) - IntKind.u64.wrap ((k : Int) * (Y : Int))) = (v : Int) := by
  rw [← Int.natCast_mul]
  obtain ⟨p, hp⟩ : ∃ p, p = k * Y := ⟨_, rfl⟩
  rw [← hp] at h ⊢
  simp only [IntKind.wrap_u64]
  omega

end Go.Proofs.YtdfnehngffajiabDoor

/- DivWord -/
namespace Go.Proofs.YtdfnehngffajiabDoor
open Go.RowKit
set_option linter.unusedVariables false

/-- The rows from k on are divided, r is left above the first k words. -/
def WordAt (L zs : List Int) (k : Nat) (W r : Int) : Prop :=
  zs.length = L.length ∧ WF zs ∧ (∀ j (h : j < zs.length) (h' : j < L.length), j < k → zs[j] = L[j]) ∧ val L = val (L.take k) + pw k * (W * val (zs.drop k) + r)
theorem WordAt.start {L : List Int} (hL : WF L) (W : Int) : WordAt L L L.length W 0 :=
  ⟨rfl, hL, fun j _ _ _ => rfl, by simp [val]⟩
theorem drop_set_at {zs : List Int} {k : Nat} (h : k < zs.length) (x : Int) : (zs.set k x).drop k = x :: zs.drop (k + 1) := by
  rw [List.drop_eq_getElem_cons (by simpa using h)]
  rw [List.getElem_set_self, List.drop_set, if_pos (by omega)]
theorem word_sum (a p x W V r q r' : Int) (h : q * W + r' = r * wB + x) : a + x * p + wB * p * (W * V + r) = a + p * (W * (q + wB * V) + r') := by
  have e : r' = r * wB + x - q * W := by omega
  subst e
  simp only [Int.mul_add, Int.mul_sub, Int.mul_comm, Int.mul_left_comm]
  omega
theorem WordAt.step {L zs : List Int} {k : Nat} {W r q r' : Int} (h : WordAt L zs (k + 1) W r) (hk : k < L.length) (hq : IsW q) (he : q * W + r' = r * wB + L[k]) : WordAt L (zs.set k q) k W r' := by
  obtain ⟨h1, h2, h3, h4⟩ := h
  refine ⟨by rw [List.length_set]; exact h1, h2.set k hq, fun j hj hj' hjk => ?_, ?_⟩
  · rw [List.getElem_set_ne (by omega)]; exact h3 j (by simpa using hj) hj' (by omega)
  · rw [h4, drop_set_at (by omega), val_take_succ L k hk]
    show _ = _ + pw k * (W * (q + wB * val (zs.drop (k + 1))) + r')
    exact word_sum _ _ _ _ _ _ _ _ he
theorem WordAt.done {L zs : List Int} {W r : Int} (h : WordAt L zs 0 W r) : val L = W * val zs + r := by
  have := h.2.2.2
  simpa [val, pw] using this

/-- What divnat.Word answers. -/
def Worded (w : World) (xs : List Int) (W : Int) (e : Ending) (w' : World) : Prop :=
  ∃ zs q r, e = .returned (.tuple #[q, .int .u64 r, .int .i64 0]) ∧ Own w.heap.size w' q zs ∧ Canon zs ∧ IsW r ∧ r < W ∧ val xs = W * val zs + r ∧ zs.length ≤ wid xs ∧ Below w.heap.size w w'

theorem least_own {w : World} {v : Value} {xs : List Int} (h : Sl w.heap.size w v xs) :
    Calls Tryd.prog 67 #[v] w fun e w' => ∃ r, e = .returned r ∧ Own w.heap.size w' r (lst xs) ∧ Below w.heap.size w w' :=
  (least_any h).mono fun e w' ⟨h1, h2, h3, h4⟩ => by
    have hx := h.1
    obtain ⟨_, a, cap, _, h6, h7, _⟩ := h
    have := wid_le xs
    refine ⟨_, h1, ⟨(canon_lst hx).1, .inr ⟨w.heap.size, [], Nat.le_refl _, ?_, ?_, ?_⟩⟩, h3⟩
    · simp [length_lst]; omega
    · simp [length_lst]
    · simpa using h2

end Go.Proofs.YtdfnehngffajiabDoor
