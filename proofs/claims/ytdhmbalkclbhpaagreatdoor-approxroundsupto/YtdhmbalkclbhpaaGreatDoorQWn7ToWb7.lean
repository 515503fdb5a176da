/-
  QWn7ToWb7: Wn7, Wb7, joined.
-/
import Derived.Test.YtdhmbalkclbhpaaGreatDoorQFo7ToWf7
import Derived.Test.YtdhmbalkclbhpaaGreatDoorQOpenTToTwos
import Derived.Test.YtdhmbalkclbhpaaGreatDoorQShr
import Derived.Test.YtdhmbalkclbhpaaGreatDoorQDivWordToMulw
import Derived.Test.YtdhmbalkclbhpaaGreatDoorQCmpToNow

/- Wn7 -/
namespace Go.Proofs.YtdhmbalkclbhpaaGreatDoor
open Go.RowKit
set_option linter.unusedVariables false

/-- A call that answers a list of its own. -/
def MovedTo (w : World) (s : Nat) (k : Nat) (e : Ending) (w' : World) : Prop :=
  ∃ zs v, e = .returned v ∧ Own w.heap.size w' v zs ∧ Canon zs ∧ vn zs = s ∧ zs.length ≤ k ∧ Below w.heap.size w w'
set_option maxHeartbeats 800000 in
theorem moved_any {w : World} {v : Value} {xs : List Int} (h : Sl w.heap.size w v xs) {n : Int} (h1 : -4611686018427387904 ≤ n) (h2 : n ≤ 1048576) (hl : xs.length ≤ 35184371000000) :
    Calls Tryz.prog 68 #[v, .int .i64 n] w (MovedTo w (mv (vn xs) n) (xs.length + 16385)) := by
  by_cases hn : n < 0
  · obtain ⟨k, hk⟩ : ∃ k : Nat, -n = (k : Int) := ⟨(-n).toNat, by omega⟩
    have HS := hid (shr_any h (n := k) (by omega))
    have HM : mv (vn xs) n = vn xs / 2 ^ k := by
      unfold mv; rw [if_pos hn, hk, Int.toNat_natCast]
    rw [HM]
    have dn : decide (n < 0) = true := decide_eq_true hn
    rw [← hk] at HS
    clear HM h hk
    go_enter Tryz.func68, Tryz.ntmps68
    go_wp2_with fail
    refine HS.out.mono ?_
    rintro e w1 ⟨zs, u, rfl, o1, q1, v1, l1, b1⟩
    go_wp2
    go_ret
    exact ⟨zs, u, rfl, o1, q1, v1, by omega, b1⟩
  · obtain ⟨k, rfl⟩ := Int.eq_ofNat_of_zero_le (show 0 ≤ n by omega)
    have HS := hid (shl_any h (n := k) (by omega) hl)
    have HM : mv (vn xs) (k : Int) = vn xs * 2 ^ k := by
      unfold mv; rw [if_neg hn, Int.toNat_natCast]
    rw [HM]
    clear HM h
    go_enter Tryz.func68, Tryz.ntmps68
    go_wp2_with fail
    refine HS.out.mono ?_
    rintro e w1 ⟨zs, u, rfl, o1, q1, v1, l1, b1⟩
    go_wp2
    go_ret
    exact ⟨zs, u, rfl, o1, q1, v1, l1, b1⟩
theorem one_word {xs : List Int} (hc : Canon xs) (hv : vn xs < 2 ^ 64) (hne : xs ≠ []) : ∃ x, xs = [x] ∧ (x : Int) = (vn xs : Int) := by
  have hval := val_vn hc.1
  have hl : xs.length ≤ 1 := canon_len hc (by rw [hval]; simp only [pw, wB]; omega)
  match xs, hne with
  | [x], _ => exact ⟨x, rfl, by rw [← hval]; simp [val]⟩
  | _ :: _ :: _, _ => simp at hl
set_option maxHeartbeats 800000 in
theorem word_any {B : Nat} {w : World} {v : Value} {xs : List Int} (h : Sl B w v xs) (hc : Canon xs) (hv : vn xs < 2 ^ 64) :
    Calls Tryz.prog 67 #[v] w fun e w' => e = .returned (.int .u64 (vn xs)) ∧ w' = w := by
  obtain ⟨hw, a, cap, rfl, hlc, hcm, hm⟩ := h
  by_cases hne : xs = []
  · subst hne
    have h0 : ((0 : Int) == 0) = true := rfl
    simp only [List.length_nil]
    go_enter Tryz.func67, Tryz.ntmps67
    go_wp2
    go_ret
    exact ⟨rfl, rfl⟩
  · obtain ⟨x, rfl, hx⟩ := one_word hc hv hne
    rw [← hx]
    rcases hm with e | ⟨b, off, rfl, hb, hcl⟩
    · exact absurd e hne
    have c0 : w.cell? ⟨b, off, none⟩ = some (.int .u64 x) := hcl 0 (by simp)
    have h0 : ((1 : Int) == 0) = false := rfl
    clear hcl hx hv hc hw hne
    simp only [List.length_cons, List.length_nil, Nat.zero_add] at hlc ⊢
    go_enter Tryz.func67, Tryz.ntmps67
    go_wp2
    go_ret
    exact ⟨rfl, rfl⟩

/-- If the last place that is cut off, and those behind it, make one more. -/
def gu (S : Nat) (p : Int) (c : Nat) : Bool := decide (0 < p ∧ (2 ^ p.toNat < 2 * (S % 2 ^ p.toNat) ∨ (2 ^ p.toNat = 2 * (S % 2 ^ p.toNat) ∧ c % 2 = 1)))
theorem gu_no {S c : Nat} {p : Int} (h : p ≤ 0) : gu S p c = false := by unfold gu; exact decide_eq_false (by omega)
theorem rnd_gu (S : Nat) (p : Int) (h : 0 < p) : rnd S p = S / 2 ^ p.toNat + (if gu S p (S / 2 ^ p.toNat) = true then 1 else 0) := by
  unfold rnd gu
  rw [if_neg (by omega)]
  simp [h]
theorem half_parts (S k : Nat) : S % 2 ^ (k + 1) = S % 2 ^ k + 2 ^ k * (S / 2 ^ k % 2) := Nat.mod_pow_succ
theorem gu_bit0 {S k c : Nat} (h : S / 2 ^ k % 2 ≠ 1) : gu S ((k + 1 : Nat) : Int) c = false := by
  have hP := Nat.two_pow_pos k
  have hm := Nat.mod_lt S hP
  unfold gu
  rw [Int.toNat_natCast, half_parts, show S / 2 ^ k % 2 = 0 by omega, Nat.pow_succ]
  refine decide_eq_false ?_
  omega
theorem gu_odd {S k c : Nat} (h : S / 2 ^ k % 2 = 1) (hc : c % 2 = 1) : gu S ((k + 1 : Nat) : Int) c = true := by
  have hP := Nat.two_pow_pos k
  unfold gu
  rw [Int.toNat_natCast, half_parts, h, Nat.pow_succ]
  refine decide_eq_true ?_
  omega
theorem gu_even {S k c t : Nat} (h : S / 2 ^ k % 2 = 1) (hc : c % 2 ≠ 1) (ht : Odd2 S t) : gu S ((k + 1 : Nat) : Int) c = decide (t < k) := by
  have hP := Nat.two_pow_pos k
  have key : t < k ↔ 0 < S % 2 ^ k := by
    obtain ⟨m, rfl⟩ := ht
    constructor
    · intro q
      refine Nat.pos_of_ne_zero fun z => ?_
      have d : 2 ^ k ∣ 2 ^ t * (2 * m + 1) := Nat.dvd_of_mod_eq_zero z
      have d2 : 2 ^ (t + 1) ∣ 2 ^ t * (2 * m + 1) := Nat.dvd_trans (Nat.pow_dvd_pow 2 (by omega)) d
      rw [Nat.pow_succ] at d2
      have := Nat.dvd_of_mul_dvd_mul_left (Nat.two_pow_pos t) d2
      omega
    · intro q
      refine Classical.byContradiction fun z => ?_
      have : 2 ^ k ∣ 2 ^ t * (2 * m + 1) := Nat.dvd_trans (Nat.pow_dvd_pow 2 (by omega)) (Nat.dvd_mul_right _ _)
      have := Nat.mod_eq_zero_of_dvd this
      omega
  unfold gu
  rw [Int.toNat_natCast, half_parts, h, Nat.pow_succ, decide_eq_decide, key]
  omega
set_option maxHeartbeats 800000 in
theorem goesUp_any {B : Nat} {w : World} {v : Value} {xs : List Int} (h : Sl B w v xs) (hT : Tab w) {p : Int} (h1 : -4611686018427387904 ≤ p) (h2 : p ≤ 4611686018427387904) {c : Nat} (hc : c < 2 ^ 64) :
    Calls Tryz.prog 69 #[v, .int .i64 p, .int .u64 c] w fun e w' => e = .returned (.bool (gu (vn xs) p c)) ∧ w' = w := by
  have HB := hid (bit_any h (i := p - 1) (by omega) (by omega))
  have HTw := hid (twos_any h hT)
  by_cases hp : p ≤ 0
  · have hb : bitAt (vn xs) (p - 1) = 0 := by unfold bitAt; rw [if_pos (by omega)]
    rw [hb] at HB
    rw [gu_no hp]
    have q0 : ((0 : Int) == 1) = false := rfl
    clear HTw h hT hb
    go_enter Tryz.func69, Tryz.ntmps69
    go_wp2_with fail
    refine HB.out.mono ?_
    rintro e w1 ⟨rfl, rfl⟩
    go_wp2
    go_ret
    exact ⟨rfl, rfl⟩
  · obtain ⟨k, rfl⟩ : ∃ k : Nat, p = ((k + 1 : Nat) : Int) := ⟨(p - 1).toNat, by omega⟩
    have e1 : ((k + 1 : Nat) : Int) - 1 = (k : Int) := by omega
    have hb : bitAt (vn xs) (k : Int) = ((vn xs / 2 ^ k % 2 : Nat) : Int) := by unfold bitAt; rw [if_neg (by omega), Int.toNat_natCast]
    rw [e1, hb] at HB
    by_cases hb1 : vn xs / 2 ^ k % 2 = 1
    · rw [hb1, show ((1 : Nat) : Int) = 1 from rfl] at HB
      have q1 : ((1 : Int) == 1) = true := rfl
      by_cases hc1 : c % 2 = 1
      · rw [gu_odd hb1 hc1]
        have q2 : ((c : Int) % 2 == 1) = true := by simp; omega
        clear HTw h hT hb hb1
        go_enter Tryz.func69, Tryz.ntmps69
        go_wp2_with fail
        refine HB.out.mono ?_
        rintro e w1 ⟨rfl, rfl⟩
        go_wp2
        go_ret
        exact ⟨rfl, rfl⟩
      · have q2 : ((c : Int) % 2 == 1) = false := by simp; omega
        have HG : Hid (∀ t, Odd2 (vn xs) t → gu (vn xs) ((k + 1 : Nat) : Int) c = decide (t < k)) := fun t ht => gu_even hb1 hc1 ht
        have HZ : Hid (vn xs ≠ 0) := fun z => by rw [z] at hb1; simp at hb1
        clear h hT hb hb1
        generalize gu (vn xs) ((k + 1 : Nat) : Int) c = GG at *
        go_enter Tryz.func69, Tryz.ntmps69
        go_wp2_with fail
        refine HB.out.mono ?_
        rintro e w1 ⟨rfl, rfl⟩
        go_wp2_with fail
        refine HTw.out.mono ?_
        rintro e w1 ⟨r, rfl, ht, rfl⟩
        rcases ht with ⟨z, _⟩ | ⟨t, rfl, ht⟩
        · exact absurd z HZ.out
        have e2 := HG.out t ht
        go_wp2
        go_ret
        exact ⟨by rw [e2]; congr 2, rfl⟩
    · have hb0 : vn xs / 2 ^ k % 2 = 0 := by omega
      rw [hb0, show ((0 : Nat) : Int) = 0 from rfl] at HB
      rw [gu_bit0 hb1]
      have q0 : ((0 : Int) == 1) = false := rfl
      clear HTw h hT hb hb1 hb0
      go_enter Tryz.func69, Tryz.ntmps69
      go_wp2_with fail
      refine HB.out.mono ?_
      rintro e w1 ⟨rfl, rfl⟩
      go_wp2
      go_ret
      exact ⟨rfl, rfl⟩
end Go.Proofs.YtdhmbalkclbhpaaGreatDoor

/- Wb7 -/
namespace Go.Proofs.YtdhmbalkclbhpaaGreatDoor
open Go.RowKit
set_option linter.unusedVariables false

theorem bl_upto {v s : Nat} (h : v < 2 ^ s) : bitLen v ≤ s := by
  by_cases h0 : v = 0
  · subst h0; exact Nat.zero_le _
  · obtain ⟨b1, b2, b3⟩ := bl_bounds h0
    have := (Nat.pow_lt_pow_iff_right (a := 2) (by omega)).1 (Nat.lt_of_le_of_lt b2 h)
    omega
theorem rnd_mv (S : Nat) (p : Int) : rnd S p = mv S (-p) + (if gu S p (mv S (-p)) = true then 1 else 0) := by
  by_cases h : 0 < p
  · have e : mv S (-p) = S / 2 ^ p.toNat := by unfold mv; rw [if_pos (by omega)]; congr 2; omega
    rw [e, rnd_gu S p h]
  · rw [gu_no (by omega)]
    unfold rnd mv
    rw [if_pos (by omega), if_neg (by omega)]; rfl
/-- What nearestBits reckons with. -/
theorem nbits_walk {S : Nat} {n : Int} (hS : S ≠ 0) (h : (bitLen S : Int) + n ≤ 1024) :
    ∃ e : Nat, max ((bitLen S : Int) + n - 53) (-1074) = (e : Int) - 1074 ∧ e ≤ 2045 ∧ mv S (n - ((e : Int) - 1074)) < 2 ^ 53 ∧
      nbits S n = e * 2 ^ 52 + (mv S (n - ((e : Int) - 1074)) + (if gu S ((e : Int) - 1074 - n) (mv S (n - ((e : Int) - 1074))) = true then 1 else 0)) := by
  obtain ⟨e, c, h1, h2, h3, h4, h5, h6, h7⟩ := nbits_form hS h
  have hu : max ((bitLen S : Int) + n - 53) (-1074) = (e : Int) - 1074 := by rw [h6]; rfl
  have hm : mv S (n - ((e : Int) - 1074)) = mv S (-((e : Int) - 1074 - n)) := by congr 1; omega
  refine ⟨e, hu, h7, ?_, ?_⟩
  · obtain ⟨k1, k2⟩ := kept hS rfl (show (bitLen S : Int) - 53 ≤ (e : Int) - 1074 - n by omega)
    unfold mv
    by_cases hp : (e : Int) - 1074 - n ≤ 0
    · rw [if_neg (by omega)]
      have := (k1 hp).1
      rw [show (-((e : Int) - 1074 - n)).toNat = (n - ((e : Int) - 1074)).toNat by omega] at this
      exact this
    · rw [if_pos (by omega)]
      have := (k2 (by omega)).1
      rw [show ((e : Int) - 1074 - n).toNat = (-(n - ((e : Int) - 1074))).toNat by omega] at this
      exact this
  · rw [h1, h2, rnd_mv, hm]

set_option maxHeartbeats 1600000 in
theorem nearestBits_any {w : World} {v : Value} {xs : List Int} (h : Sl w.heap.size w v xs) (hT : Tab w) (hl : xs.length ≤ 1099511627776) {n : Int} (h1 : -1048576 ≤ n) (h2 : n ≤ 1048576) :
    Calls Tryz.prog 49 #[v, .int .i64 n] w fun e w' => e = .returned (.int .u64 (nbits (vn xs) n)) ∧ Below w.heap.size w w' := by
  have HL := hid (bitLen_any h)
  have hb := bl_upto (vn_lt h.1)
  by_cases h0 : vn xs = 0
  · rw [h0, nbits_zero]
    rw [h0] at HL
    have e0 : ((bitLen 0 : Nat) : Int) = 0 := rfl
    rw [e0] at HL
    have q0 : ((0 : Int) == 0) = true := rfl
    clear h hT
    go_enter Tryz.func49, Tryz.ntmps49
    go_wp2_with fail
    refine HL.out.mono ?_
    rintro e w1 ⟨rfl, rfl⟩
    go_wp2
    go_ret
    exact ⟨rfl, Below.refl _ _⟩
  have hbp := (bl_bounds h0).2.2
  have q0 : ((bitLen (vn xs) : Int) == 0) = false := by simp; omega
  by_cases hf : 1024 < (bitLen (vn xs) : Int) + n
  · rw [show nbits (vn xs) n = 2047 * 2 ^ 52 by unfold nbits; rw [if_neg h0, if_pos hf]]
    clear h hT
    generalize bitLen (vn xs) = L at *
    go_enter Tryz.func49, Tryz.ntmps49
    go_wp2_with fail
    refine HL.out.mono ?_
    rintro e w1 ⟨rfl, rfl⟩
    go_wp2
    go_ret
    exact ⟨rfl, Below.refl _ _⟩
  · obtain ⟨e, hu, he, hc, hn⟩ := nbits_walk h0 (show (bitLen (vn xs) : Int) + n ≤ 1024 by omega)
    have HM := hid (moved_any h (n := n - ((e : Int) - 1074)) (by omega) (by omega) (by omega))
    have HG : Hid (∀ w' : World, Below w.heap.size w w' → Calls Tryz.prog 69 #[v, .int .i64 ((e : Int) - 1074 - n), .int .u64 (mv (vn xs) (n - ((e : Int) - 1074)))] w' fun e' w'' => e' = .returned (.bool (gu (vn xs) ((e : Int) - 1074 - n) (mv (vn xs) (n - ((e : Int) - 1074))))) ∧ w'' = w') := fun w' b => goesUp_any (h.now b) (hT.now b) (by omega) (by omega) (by omega)
    have HN := hid hn
    clear h hT hn
    generalize mv (vn xs) (n - ((e : Int) - 1074)) = c at *
    generalize gu (vn xs) ((e : Int) - 1074 - n) c = u at *
    generalize nbits (vn xs) n = R at *
    generalize bitLen (vn xs) = L at *
    go_enter Tryz.func49, Tryz.ntmps49
    go_wp2_with fail
    refine HL.out.mono ?_
    rintro e w1 ⟨rfl, rfl⟩
    go_wp2_with fail
    refine HM.out.mono ?_
    rintro e1 w2 ⟨zs, r, rfl, o1, q1, v1, l1, b1⟩
    have HWd := hid (word_any o1.sl q1 (by rw [v1]; omega))
    rw [v1] at HWd
    have B1 := hid b1
    clear HM o1 q1 v1 b1
    go_wp2_with fail
    refine HWd.out.mono ?_
    rintro e2 w3 ⟨rfl, rfl⟩
    clear HWd
    go_wp2_with fail
    refine (HG.out _ B1.out).mono ?_
    rintro e3 w4 ⟨rfl, rfl⟩
    cases u
    · have e5 : R = e * 2 ^ 52 + c := by rw [HN.out]; simp
      go_wp2
      go_ret
      refine ⟨congrArg Ending.returned (congrArg (Value.int IntKind.u64) ?_), B1.out⟩
      rw [e5]; omega
    · have e5 : R = e * 2 ^ 52 + (c + 1) := by rw [HN.out]; simp
      go_wp2
      go_ret
      refine ⟨congrArg Ending.returned (congrArg (Value.int IntKind.u64) ?_), B1.out⟩
      rw [e5]; omega
/-- The word with its sign. -/
def fw (neg : Bool) (r : Nat) : Nat := if neg = true ∧ r ≠ 0 then 2 ^ 63 + r else r
theorem or_sign {r : Nat} (h : r < 2 ^ 63) : bits .or .u64 (r : Int) 9223372036854775808 = ((2 ^ 63 + r : Nat) : Int) := by
  have e := bits_or_nat r 9223372036854775808 (by omega) (by omega)
  rw [show ((9223372036854775808 : Nat) : Int) = 9223372036854775808 from rfl] at e
  rw [e, show (9223372036854775808 : Nat) = 2 ^ 63 * 1 from rfl, Nat.or_comm, ← Nat.two_pow_add_eq_or_of_lt h 1]
set_option maxHeartbeats 1600000 in
theorem nearest_any {w : World} {v : Value} {xs : List Int} (h : Sl w.heap.size w v xs) (hT : Tab w) (hl : xs.length ≤ 1099511627776) {n : Int} (h1 : -1048576 ≤ n) (h2 : n ≤ 1048576) (neg : Bool) :
    Calls Tryz.prog 31 #[.bool neg, v, .int .i64 n] w fun e w' => e = .returned (.float .f64 (fw neg (nbits (vn xs) n))) ∧ Below w.heap.size w w' := by
  have HB := hid (nearestBits_any h hT hl h1 h2)
  have hle := nbits_le (vn xs) n
  generalize nbits (vn xs) n = r at *
  have k1 := ffrom_run r
  have k2 := ffrom_run (2 ^ 63 + r)
  have k3 := or_sign (r := r) (by omega)
  rw [← k3] at k2
  clear h hT
  cases neg
  · have e : fw false r = r := by unfold fw; simp
    rw [e]
    go_enter Tryz.func31, Tryz.ntmps31
    go_wp2_with fail
    refine HB.out.mono ?_
    rintro e w1 ⟨rfl, b⟩
    have B1 := hid b
    clear b
    go_wp2
    go_ret
    exact ⟨rfl, B1.out⟩
  · by_cases h0 : r = 0
    · subst h0
      have q0 : ((0 : Int) != 0) = false := rfl
      have k1' : ∀ w, (callFunc 50 #[.int .u64 0]).run Tryz.prog w = .ok (.value (.float .f64 0)) w := k1
      rw [show ((0 : Nat) : Int) = 0 from rfl] at HB
      clear k2 k3 k1
      rw [show fw true 0 = 0 from rfl]
      go_enter Tryz.func31, Tryz.ntmps31
      go_wp2_with fail
      refine HB.out.mono ?_
      rintro e w1 ⟨rfl, b⟩
      have B1 := hid b
      clear b
      go_wp2
      go_ret
      exact ⟨rfl, B1.out⟩
    · have e : fw true r = 2 ^ 63 + r := by unfold fw; simp [h0]
      rw [e]
      have q0 : ((r : Int) != 0) = true := by simp; omega
      clear k3
      generalize 2 ^ 63 + r = R at *
      go_enter Tryz.func31, Tryz.ntmps31
      go_wp2_with fail
      refine HB.out.mono ?_
      rintro e w1 ⟨rfl, b⟩
      have B1 := hid b
      clear b
      go_wp2
      go_ret
      exact ⟨rfl, B1.out⟩
end Go.Proofs.YtdhmbalkclbhpaaGreatDoor
