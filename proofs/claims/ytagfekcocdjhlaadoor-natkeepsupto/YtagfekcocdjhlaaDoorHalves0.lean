/-
  Halves0: the calls with a number of places in one form; the arithmetic of NatHalves.
-/
import Derived.Test.YtagfekcocdjhlaaDoorShl
import Derived.Test.YtagfekcocdjhlaaDoorShr
import Derived.Test.YtagfekcocdjhlaaDoorLow
import Derived.Test.YtagfekcocdjhlaaDoorTwos
import Derived.Test.YtagfekcocdjhlaaDoorNow
namespace Go.Proofs.YtagfekcocdjhlaaDoor
open Go.RowKit

theorem canon_vn {xs ys : List Int} (hx : Canon xs) (hy : Canon ys) (h : vn xs = vn ys) : xs = ys := canon_inj hx hy ((vn_eq hx.1 hy.1).1 h)
/-- One form for all three. -/
def MovedTo (w : World) (s k : Nat) (e : Ending) (w' : World) : Prop :=
  ∃ zs a cap, e = .returned (.tuple #[.slice a zs.length cap, .int .i64 0]) ∧ Sl w'.heap.size w' (.slice a zs.length cap) zs ∧ Canon zs ∧ vn zs = s ∧ zs.length ≤ k ∧ Below w.heap.size w w'
theorem movedTo {w w' : World} {s k : Nat} {e : Ending} (h : Moved w s k e w') : MovedTo w s k e w' := by
  obtain ⟨zs, v, h1, h2, h3, h4, h5, h6⟩ := h
  obtain ⟨a, cap, rfl⟩ := h2.form
  exact ⟨zs, a, cap, h1, h2.sl, h3, h4, h5, h6⟩
theorem shl_now {w : World} {v : Value} {xs : List Int} (h : Sl w.heap.size w v xs) {n : Nat} (hn : n ≤ 1048576) (hlen : xs.length ≤ 35184371000000) :
    Calls Tryd.prog 27 #[v, .int .i64 (n : Int)] w (MovedTo w (vn xs * 2 ^ n) (xs.length + 16385)) := (shl_any h hn hlen).mono fun _ _ h => movedTo h
theorem shr_now {w : World} {v : Value} {xs : List Int} (h : Sl w.heap.size w v xs) {n : Nat} (hn : n ≤ 9223372036854775807) :
    Calls Tryd.prog 28 #[v, .int .i64 (n : Int)] w (MovedTo w (vn xs / 2 ^ n) xs.length) := (shr_any h hn).mono fun _ _ h => movedTo h
theorem low_now {w : World} {v : Value} {xs : List Int} (h : Sl w.heap.size w v xs) {n : Nat} (hn : n ≤ 9223372036854775807) :
    Calls Tryd.prog 29 #[v, .int .i64 (n : Int)] w (MovedTo w (vn xs % 2 ^ n) xs.length) := (low_any h hn).mono fun _ _ h => movedTo h
theorem shl_at {w : World} {v : Value} {xs : List Int} (h : Sl w.heap.size w v xs) {i : Int} (n : Nat) (hi : i = (n : Int)) (hn : n ≤ 1048576) (hlen : xs.length ≤ 35184371000000) :
    Calls Tryd.prog 27 #[v, .int .i64 i] w (MovedTo w (vn xs * 2 ^ n) (xs.length + 16385)) := by subst hi; exact shl_now h hn hlen
theorem shr_at {w : World} {v : Value} {xs : List Int} (h : Sl w.heap.size w v xs) {i : Int} (n : Nat) (hi : i = (n : Int)) (hn : n ≤ 9223372036854775807) :
    Calls Tryd.prog 28 #[v, .int .i64 i] w (MovedTo w (vn xs / 2 ^ n) xs.length) := by subst hi; exact shr_now h hn
theorem same_below {P : Program} {f : FuncId} {args : Array Value} {w : World} {r : Value} (h : Calls P f args w fun e w' => e = .returned r ∧ w' = w) : Calls P f args w fun e w' => e = .returned r ∧ Below w.heap.size w w' :=
  h.mono fun e w' ⟨h1, h2⟩ => ⟨h1, by subst h2; exact Below.refl _ _⟩
theorem bitLen_now {w : World} {v : Value} {xs : List Int} (h : Sl w.heap.size w v xs) :
    Calls Tryd.prog 16 #[v] w fun e w' => e = .returned (.int .i64 (bitLen (vn xs) : Int)) ∧ Below w.heap.size w w' := same_below (bitLen_any h)
theorem twos_now {w : World} {v : Value} {xs : List Int} (h : Sl w.heap.size w v xs) (hT : Tab w) :
    Calls Tryd.prog 18 #[v] w fun e w' => ∃ r, e = .returned (.int .i64 r) ∧ IsTwos (vn xs) r ∧ Below w.heap.size w w' :=
  (twos_any h hT).mono fun e w' ⟨r, h1, h2, h3⟩ => ⟨r, h1, h2, by subst h3; exact Below.refl _ _⟩
theorem add_vn {w : World} {v u : Value} {xs ys : List Int} (h : Sl w.heap.size w v xs) (h' : Sl w.heap.size w u ys) (hl : xs.length < 35184372088832) (hl' : ys.length < 35184372088832) :
    Calls Tryd.prog 19 #[v, u] w fun e w' => ∃ zs r, e = .returned r ∧ Sl w'.heap.size w' r zs ∧ Canon zs ∧ vn zs = vn xs + vn ys ∧ Below w.heap.size w w' :=
  (add_now h h' hl hl').mono fun e w' ⟨zs, r, h1, h2, h3, h4, _, h5⟩ => ⟨zs, r, h1, h2, h3, by
    rw [val_vn h3.1, val_vn h.1, val_vn h'.1] at h4; omega, h5⟩

theorem bitLen_le {v s : Nat} (h : v < 2 ^ s) : bitLen v ≤ s := by
  unfold bitLen
  split
  · omega
  · rename_i h0
    have := (Nat.log2_lt h0).2 h
    omega
theorem lt_of_bitLen {v s : Nat} (h : bitLen v ≤ s) : v < 2 ^ s := Nat.lt_of_lt_of_le (bitLen_spec v).1 (Nat.pow_le_pow_right (by omega) h)
theorem bitLen_pos {v : Nat} (h : v ≠ 0) : 0 < bitLen v := by unfold bitLen; rw [if_neg h]; omega
theorem bitLen_div {v n : Nat} (h : n < bitLen v) : bitLen (v / 2 ^ n) = bitLen v - n := by
  have h0 : v / 2 ^ n ≠ 0 := by
    intro e
    have : v < 2 ^ n := by rcases (Nat.div_eq_zero_iff).1 e with q | q; exact absurd q (Nat.ne_of_gt (Nat.two_pow_pos n)); exact q
    have := bitLen_le this
    omega
  rw [bitLen_shift v n h0]; omega
theorem bitLen_mul {v n : Nat} (h : v ≠ 0) : bitLen (v * 2 ^ n) = bitLen v + n := by
  have e : v * 2 ^ n / 2 ^ n = v := Nat.mul_div_cancel _ (Nat.two_pow_pos n)
  rw [bitLen_shift (v * 2 ^ n) n (by rw [e]; exact h), e]; omega
theorem isTwos_mul {v n : Nat} {t r : Int} (h0 : v ≠ 0) (h : IsTwos v t) (h' : IsTwos (v * 2 ^ n) r) : r = t + n := by
  rcases h with ⟨h1, _⟩ | ⟨a, rfl, m, hm⟩
  · exact absurd h1 h0
  · have ho : Odd2 (v * 2 ^ n) (a + n) := ⟨m, by rw [hm, Nat.pow_add, Nat.mul_right_comm]⟩
    rcases h' with ⟨h1, _⟩ | ⟨b, rfl, hb⟩
    · exact absurd h1 (odd2_pos ho)
    · have ha' := odd2_bit ho
      have hb' := odd2_bit hb
      rcases Nat.lt_trichotomy b (a + n) with q | q | q
      · rw [ha'.2 b q] at hb'; cases hb'.1
      · omega
      · rw [hb'.2 _ q] at ha'; cases ha'.1
theorem isTwos_bounds {v s : Nat} {t : Int} (h : v < 2 ^ s) (ht : IsTwos v t) : -1 ≤ t ∧ t < s := by
  rcases ht with ⟨_, h1⟩ | ⟨a, rfl, ho⟩
  · omega
  · have hb := Nat.ge_two_pow_of_testBit (odd2_bit ho).1
    have : a < s := (Nat.pow_lt_pow_iff_right (by omega : 1 < 2)).1 (Nat.lt_of_le_of_lt hb h)
    omega
theorem halves_sum (v n : Nat) : v / 2 ^ n * 2 ^ n + v % 2 ^ n = v := by rw [Nat.mul_comm]; exact Nat.div_add_mod v (2 ^ n)
end Go.Proofs.YtagfekcocdjhlaaDoor
