/-
  QDiv64ToDivWord: Div64, DivWord, joined.
-/
import Derived.Test.YtojhmkkjjalonaaQDivPure
import Derived.Test.YtojhmkkjjalonaaQLen2ToTrim
import Derived.Test.YtojhmkkjjalonaaQShift
import Derived.Shelf.Bits.Mul64
import Derived.Test.YtojhmkkjjalonaaQMade

/- Div64 -/
namespace Go.Proofs.Ytojhmkkjjalonaa
open Go.RowKit
set_option linter.unusedVariables false

/-- The dividend's three pieces, gone up by s places. -/
theorem div_up {x lo y s : Nat} (hl : lo < 18446744073709551616) (hxy : x < y) (hs : s < 64) (hY : y * 2 ^ s < 18446744073709551616) :
    ∃ u un : Nat, bits BinOp.or IntKind.u64 (IntKind.u64.wrap ((x : Int) * 2 ^ s)) ((lo : Int) / 2 ^ (64 - s)) = (u : Int) ∧ IntKind.u64.wrap ((lo : Int) * 2 ^ s) = (un : Int) ∧ un < 18446744073709551616 ∧
      u * 18446744073709551616 + un = (x * 18446744073709551616 + lo) * 2 ^ s ∧ u < y * 2 ^ s := by
  have hp := Nat.two_pow_pos s
  have hq := Nat.two_pow_pos (64 - s)
  have hsp := pow_split (p := s) (by omega)
  have hc : lo / 2 ^ (64 - s) < 2 ^ s := by rw [Nat.div_lt_iff_lt_mul hq, hsp]; exact hl
  have hxP : x * 2 ^ s + 2 ^ s ≤ y * 2 ^ s := by rw [← Nat.succ_mul]; exact Nat.mul_le_mul_right _ hxy
  have hx64 : x < 18446744073709551616 := by
    have : x * 1 ≤ x * 2 ^ s := Nat.mul_le_mul_left _ hp
    omega
  have e1 : IntKind.u64.wrap ((x : Int) * 2 ^ s) = ((x * 2 ^ s : Nat) : Int) := by
    rw [cast_pow, ← Int.natCast_mul]; exact Mul64.wrapN _ (by omega)
  have e2 : (lo : Int) / 2 ^ (64 - s) = ((lo / 2 ^ (64 - s) : Nat) : Int) := by rw [cast_pow]; simp
  have e3 : x * 2 ^ s ||| lo / 2 ^ (64 - s) = x * 2 ^ s + lo / 2 ^ (64 - s) := by rw [Nat.mul_comm]; exact (Nat.two_pow_add_eq_or_of_lt hc _).symm
  have e4 : IntKind.u64.wrap ((lo : Int) * 2 ^ s) = ((lo * 2 ^ s % 18446744073709551616 : Nat) : Int) := by
    rw [cast_pow, ← Int.natCast_mul]; exact Mul64.wrapM _
  have e5 : lo * 2 ^ s / 18446744073709551616 = lo / 2 ^ (64 - s) := by
    rw [← hsp, Nat.mul_comm (2 ^ s), Nat.mul_div_mul_right _ _ hp]
  refine ⟨x * 2 ^ s + lo / 2 ^ (64 - s), lo * 2 ^ s % 18446744073709551616, ?_, e4, Nat.mod_lt _ (by omega), ?_, by omega⟩
  · rw [e1, e2, bits_or_nat _ _ (by omega) (by omega), e3]
  · rw [← e5]
    have e6 := Nat.div_add_mod (lo * 2 ^ s) 18446744073709551616
    have e7 : (x * 18446744073709551616 + lo) * 2 ^ s = x * 2 ^ s * 18446744073709551616 + lo * 2 ^ s := by rw [Nat.add_mul, Nat.mul_right_comm]
    rw [e7, Nat.add_mul]
    obtain ⟨L, hL⟩ : ∃ L, L = lo * 2 ^ s := ⟨_, rfl⟩
    rw [← hL] at e6 ⊢
    rw [Nat.add_assoc, Nat.mul_comm (L / 18446744073709551616), e6]

theorem div_begin {v y1 : Nat} (hv : v < 18446744073709551616) (h1 : 0 < y1) : ∃ q r : Nat, (v : Int).tdiv (y1 : Int) = (q : Int) ∧ (v : Int) / (y1 : Int) = (q : Int) ∧ IntKind.u64.wrap (q : Int) = (q : Int) ∧ IntKind.u64.wrap ((q : Int) * (y1 : Int)) = ((q * y1 : Nat) : Int) ∧
    IntKind.u64.wrap ((v : Int) - (q : Int) * (y1 : Int)) = (r : Int) ∧ q ≤ v ∧ r < y1 ∧ q = v / y1 ∧ r = v % y1 := by
  have q1 := Nat.div_le_self v y1
  have q2 := Nat.div_add_mod v y1
  have q3 := Nat.mod_lt v h1
  rw [Nat.mul_comm] at q2
  refine ⟨v / y1, v % y1, (Int.ofNat_tdiv v y1).symm, by simp, Mul64.wrapN _ (by omega), ?_, ?_, q1, q3, rfl, rfl⟩
  · rw [← Int.natCast_mul]; exact Mul64.wrapN _ (by omega)
  · rw [← Int.natCast_mul, show (v : Int) - ((v / y1 * y1 : Nat) : Int) = ((v % y1 : Nat) : Int) by omega]; exact Mul64.wrapN _ (by omega)
theorem up_rest {u d k Y v : Nat} (h : k * Y + v = u * 4294967296 + d) (hv : v < 18446744073709551616) :
    IntKind.u64.wrap (IntKind.u64.wrap (IntKind.u64.wrap ((u : Int) * 4294967296) + (d : Int)) - IntKind.u64.wrap ((k : Int) * (Y : Int))) = (v : Int) := by
  rw [← Int.natCast_mul]
  obtain ⟨p, hp⟩ : ∃ p, p = k * Y := ⟨_, rfl⟩
  rw [← hp] at h ⊢
  simp only [IntKind.wrap_u64]
  omega

end Go.Proofs.Ytojhmkkjjalonaa

/- DivWord -/
namespace Go.Proofs.Ytojhmkkjjalonaa
open Go.RowKit
set_option linter.unusedVariables false

/-- The rows from k on are divided, r is left above the first k words. -/
def WordAt (L zs : List Int) (k : Nat) (W r : Int) : Prop :=
  zs.length = L.length ∧ WF zs ∧ (∀ j (h : j < zs.length) (h' : j < L.length), j < k → zs[j] = L[j]) ∧ val L = val (L.take k) + pw k * (W * val (zs.drop k) + r)
theorem WordAt.start {L : List Int} (hL : WF L) (W : Int) : WordAt L L L.length W 0 :=
  ⟨rfl, hL, fun j _ _ _ => rfl, by simp [val]⟩
theorem drop_set_at {zs : List Int} {k : Nat} (h : k < zs.length) (x : Int) : (zs.set k x).drop k = x :: zs.drop (k + 1) := by
  rw [List.drop_eq_getElem_cons (by simpa using h)]
  rw [List.getElem_set_self, List.drop_set, if_pos (by omega)]
theorem word_sum (a p x W V r q r' : Int) (h : q * W + r' = r * wB + x) : a + x * p + wB * p * (W * V + r) = a + p * (W * (q + wB * V) + r') := by
  have e : r' = r * wB + x - q * W := by omega
  subst e
  simp only [Int.mul_add, Int.mul_sub, Int.mul_comm, Int.mul_left_comm]
  omega
theorem WordAt.step {L zs : List Int} {k : Nat} {W r q r' : Int} (h : WordAt L zs (k + 1) W r) (hk : k < L.length) (hq : IsW q) (he : q * W + r' = r * wB + L[k]) : WordAt L (zs.set k q) k W r' := by
  obtain ⟨h1, h2, h3, h4⟩ := h
  refine ⟨by rw [List.length_set]; exact h1, h2.set k hq, fun j hj hj' hjk => ?_, ?_⟩
  · rw [List.getElem_set_ne (by omega)]; exact h3 j (by simpa using hj) hj' (by omega)
  · rw [h4, drop_set_at (by omega), val_take_succ L k hk]
    show _ = _ + pw k * (W * (q + wB * val (zs.drop (k + 1))) + r')
    exact word_sum _ _ _ _ _ _ _ _ he
theorem WordAt.done {L zs : List Int} {W r : Int} (h : WordAt L zs 0 W r) : val L = W * val zs + r := by
  have := h.2.2.2
  simpa [val, pw] using this

/-- What divnat.Word answers. -/
def Worded (w : World) (xs : List Int) (W : Int) (e : Ending) (w' : World) : Prop :=
  ∃ zs q r, e = .returned (.tuple #[q, .int .u64 r, .int .i64 0]) ∧ Own w.heap.size w' q zs ∧ Canon zs ∧ IsW r ∧ r < W ∧ val xs = W * val zs + r ∧ zs.length ≤ wid xs ∧ Below w.heap.size w w'

theorem least_own {w : World} {v : Value} {xs : List Int} (h : Sl w.heap.size w v xs) :
    Calls Try.prog 61 #[v] w fun e w' => ∃ r, e = .returned r ∧ Own w.heap.size w' r (lst xs) ∧ Below w.heap.size w w' :=
  (least_any h).mono fun e w' ⟨h1, h2, h3, h4⟩ => by
    have hx := h.1
    obtain ⟨_, a, cap, _, h6, h7, _⟩ := h
    have := wid_le xs
    refine ⟨_, h1, ⟨(canon_lst hx).1, .inr ⟨w.heap.size, [], Nat.le_refl _, ?_, ?_, ?_⟩⟩, h3⟩
    · simp [length_lst]; omega
    · simp [length_lst]
    · simpa using h2

end Go.Proofs.Ytojhmkkjjalonaa
