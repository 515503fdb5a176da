/-
  Wb7: nearestBits, nearest.
-/
import Derived.Test.YtbamffggnnacaaaDoorQWn7ToAddTo
import Derived.Test.YtbamffggnnacaaaDoorQSubToNow
namespace Go.Proofs.YtbamffggnnacaaaDoor
open Go.RowKit
set_option linter.unusedVariables false

theorem bl_upto {v s : Nat} (h : v < 2 ^ s) : bitLen v ≤ s := by
  by_cases h0 : v = 0
  · subst h0; exact Nat.zero_le _
  · obtain ⟨b1, b2, b3⟩ := bl_bounds h0
    have := (Nat.pow_lt_pow_iff_right (a := 2) (by omega)).1 (Nat.lt_of_le_of_lt b2 h)
    omega
theorem rnd_mv (S : Nat) (p : Int) : rnd S p = mv S (-p) + (if gu S p (mv S (-p)) = true then 1 else 0) := by
  by_cases h : 0 < p
  · have e : mv S (-p) = S / 2 ^ p.toNat := by unfold mv; rw [if_pos (by omega)]; congr 2; omega
    rw [e, rnd_gu S p h]
  · rw [gu_no (by omega)]
    unfold rnd mv
    rw [if_pos (by omega), if_neg (by omega)]; rfl
/-- What nearestBits reckons with. -/
theorem nbits_walk {S : Nat} {n : Int} (hS : S ≠ 0) (h : (bitLen S : Int) + n ≤ 1024) :
    ∃ e : Nat, max ((bitLen S : Int) + n - 53) (-1074) = (e : Int) - 1074 ∧ e ≤ 2045 ∧ mv S (n - ((e : Int) - 1074)) < 2 ^ 53 ∧
      nbits S n = e * 2 ^ 52 + (mv S (n - ((e : Int) - 1074)) + (if gu S ((e : Int) - 1074 - n) (mv S (n - ((e : Int) - 1074))) = true then 1 else 0)) := by
  obtain ⟨e, c, h1, h2, h3, h4, h5, h6, h7⟩ := nbits_form hS h
  have hu : max ((bitLen S : Int) + n - 53) (-1074) = (e : Int) - 1074 := by rw [h6]; rfl
  have hm : mv S (n - ((e : Int) - 1074)) = mv S (-((e : Int) - 1074 - n)) := by congr 1; omega
  refine ⟨e, hu, h7, ?_, ?_⟩
  · obtain ⟨k1, k2⟩ := kept hS rfl (show (bitLen S : Int) - 53 ≤ (e : Int) - 1074 - n by omega)
    unfold mv
    by_cases hp : (e : Int) - 1074 - n ≤ 0
    · rw [if_neg (by omega)]
      have := (k1 hp).1
      rw [show (-((e : Int) - 1074 - n)).toNat = (n - ((e : Int) - 1074)).toNat by omega] at this
      exact this
    · rw [if_pos (by omega)]
      have := (k2 (by omega)).1
      rw [show ((e : Int) - 1074 - n).toNat = (-(n - ((e : Int) - 1074))).toNat by omega] at this
      exact this
  · rw [h1, h2, rnd_mv, hm]

set_option maxHeartbeats 1600000 in
theorem nearestBits_any {w : World} {v : Value} {xs : List Int} (h : Sl w.heap.size w v xs) (hT : Tab w) (hl : xs.length ≤ 1099511627776) {n : Int} (h1 : -1048576 ≤ n) (h2 : n ≤ 1048576) :
    Calls Tryd.prog 48 #[v, .int .i64 n] w fun e w' => e = .returned (.int .u64 (nbits (vn xs) n)) ∧ Below w.heap.size w w' := by
  have HL := hid (bitLen_any h)
  have hb := bl_upto (vn_lt h.1)
  by_cases h0 : vn xs = 0
  · rw [h0, nbits_zero]
    rw [h0] at HL
    have e0 : ((bitLen 0 : Nat) : Int) = 0 := rfl
    rw [e0] at HL
    have q0 : ((0 : Int) == 0) = true := rfl
    clear h hT
    go_enter Tryd.func48, Tryd.ntmps48
    go_wp2_with fail
    refine HL.out.mono ?_
    rintro e w1 ⟨rfl, rfl⟩
    go_wp2
    go_ret
    exact ⟨rfl, Below.refl _ _⟩
  have hbp := (bl_bounds h0).2.2
  have q0 : ((bitLen (vn xs) : Int) == 0) = false := by simp; omega
  by_cases hf : 1024 < (bitLen (vn xs) : Int) + n
  · rw [show nbits (vn xs) n = 2047 * 2 ^ 52 by unfold nbits; rw [if_neg h0, if_pos hf]]
    clear h hT
    generalize bitLen (vn xs) = L at *
    go_enter Tryd.func48, Tryd.ntmps48
    go_wp2_with fail
    refine HL.out.mono ?_
    rintro e w1 ⟨rfl, rfl⟩
    go_wp2
    go_ret
    exact ⟨rfl, Below.refl _ _⟩
  · obtain ⟨e, hu, he, hc, hn⟩ := nbits_walk h0 (show (bitLen (vn xs) : Int) + n ≤ 1024 by omega)
    have HM := hid (moved_any h (n := n - ((e : Int) - 1074)) (by omega) (by omega) (by omega))
    have HG : Hid (∀ w' : World, Below w.heap.size w w' → Calls Tryd.prog 72 #[v, .int .i64 ((e : Int) - 1074 - n), .int .u64 (mv (vn xs) (n - ((e : Int) - 1074)))] w' fun e' w'' => e' = .returned (.bool (gu (vn xs) ((e : Int) - 1074 - n) (mv (vn xs) (n - ((e : Int) - 1074))))) ∧ w'' = w') := fun w' b => goesUp_any (h.now b) (hT.now b) (by omega) (by omega) (by omega)
    have HN := hid hn
    clear h hT hn
    generalize mv (vn xs) (n - ((e : Int) - 1074)) = c at *
    generalize gu (vn xs) ((e : Int) - 1074 - n) c = u at *
    generalize nbits (vn xs) n = R at *
    generalize bitLen (vn xs) = L at *
    go_enter Tryd.func48, Tryd.ntmps48
    go_wp2_with fail
    refine HL.out.mono ?_
    rintro e w1 ⟨rfl, rfl⟩
    go_wp2_with fail
    refine HM.out.mono ?_
    rintro e1 w2 ⟨zs, r, rfl, o1, q1, v1, l1, b1⟩
    have HWd := hid (word_any o1.sl q1 (by rw [v1]; omega))
    rw [v1] at HWd
    have B1 := hid b1
    clear HM o1 q1 v1 b1
    go_wp2_with fail
    refine HWd.out.mono ?_
    rintro e2 w3 ⟨rfl, rfl⟩
    clear HWd
    go_wp2_with fail
    refine (HG.out _ B1.out).mono ?_
    rintro e3 w4 ⟨rfl, rfl⟩
    cases u
    · have e5 : R = e * 2 ^ 52 + c := by rw [HN.out]; simp
      go_wp2
      go_ret
      refine ⟨congrArg Ending.returned (congrArg (Value.int IntKind.u64) ?_), B1.out⟩
      rw [e5]; omega
    · have e5 : R = e * 2 ^ 52 + (c + 1) := by rw [HN.out]; simp
      go_wp2
      go_ret
      refine ⟨congrArg Ending.returned (congrArg (Value.int IntKind.u64) ?_), B1.out⟩
      rw [e5]; omega
/-- The word with its sign. -/
def fw (neg : Bool) (r : Nat) : Nat := if neg = true ∧ r ≠ 0 then 2 ^ 63 + r else r
theorem or_sign {r : Nat} (h : r < 2 ^ 63) : bits .or .u64 (r : Int) 9223372036854775808 = ((2 ^ 63 + r : Nat) : Int) := by
  have e := bits_or_nat r 9223372036854775808 (by omega) (by omega)
  rw [show ((9223372036854775808 : Nat) : Int) = 9223372036854775808 from rfl] at e
  rw [e, show (9223372036854775808 : Nat) = 2 ^ 63 * 1 from rfl, Nat.or_comm, ← Nat.two_pow_add_eq_or_of_lt h 1]
set_option maxHeartbeats 1600000 in
theorem nearest_any {w : World} {v : Value} {xs : List Int} (h : Sl w.heap.size w v xs) (hT : Tab w) (hl : xs.length ≤ 1099511627776) {n : Int} (h1 : -1048576 ≤ n) (h2 : n ≤ 1048576) (neg : Bool) :
    Calls Tryd.prog 29 #[.bool neg, v, .int .i64 n] w fun e w' => e = .returned (.float .f64 (fw neg (nbits (vn xs) n))) ∧ Below w.heap.size w w' := by
  have HB := hid (nearestBits_any h hT hl h1 h2)
  have hle := nbits_le (vn xs) n
  generalize nbits (vn xs) n = r at *
  have k1 := ffrom_run r
  have k2 := ffrom_run (2 ^ 63 + r)
  have k3 := or_sign (r := r) (by omega)
  rw [← k3] at k2
  clear h hT
  cases neg
  · have e : fw false r = r := by unfold fw; simp
    rw [e]
    go_enter Tryd.func29, Tryd.ntmps29
    go_wp2_with fail
    refine HB.out.mono ?_
    rintro e w1 ⟨rfl, b⟩
    have B1 := hid b
    clear b
    go_wp2
    go_ret
    exact ⟨rfl, B1.out⟩
  · by_cases h0 : r = 0
    · subst h0
      have q0 : ((0 : Int) != 0) = false := rfl
      have k1' : ∀ w, (callFunc 18 #[.int .u64 0]).run Tryd.prog w = .ok (.value (.float .f64 0)) w := k1
      rw [show ((0 : Nat) : Int) = 0 from rfl] at HB
      clear k2 k3 k1
      rw [show fw true 0 = 0 from rfl]
      go_enter Tryd.func29, Tryd.ntmps29
      go_wp2_with fail
      refine HB.out.mono ?_
      rintro e w1 ⟨rfl, b⟩
      have B1 := hid b
      clear b
      go_wp2
      go_ret
      exact ⟨rfl, B1.out⟩
    · have e : fw true r = 2 ^ 63 + r := by unfold fw; simp [h0]
      rw [e]
      have q0 : ((r : Int) != 0) = true := by simp; omega
      clear k3
      generalize 2 ^ 63 + r = R at *
      go_enter Tryd.func29, Tryd.ntmps29
      go_wp2_with fail
      refine HB.out.mono ?_
      rintro e w1 ⟨rfl, b⟩
      have B1 := hid b
      clear b
      go_wp2
      go_ret
      exact ⟨rfl, B1.out⟩
end Go.Proofs.YtbamffggnnacaaaDoor
