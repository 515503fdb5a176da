/-
  Wn7: the nearest float64, walked.
-/
import Derived.Test.YtbamffggnnacaaaDoorQFt7ToWf7
import Derived.Test.YtbamffggnnacaaaDoorQTwos
import Derived.Test.YtbamffggnnacaaaDoorQShr
import Derived.Test.YtbamffggnnacaaaDoorQProd
namespace Go.Proofs.YtbamffggnnacaaaDoor
open Go.RowKit
set_option linter.unusedVariables false

/-- A call that answers a list of its own. -/
def MovedTo (w : World) (s : Nat) (k : Nat) (e : Ending) (w' : World) : Prop :=
  ∃ zs v, e = .returned v ∧ Own w.heap.size w' v zs ∧ Canon zs ∧ vn zs = s ∧ zs.length ≤ k ∧ Below w.heap.size w w'
set_option maxHeartbeats 800000 in
theorem moved_any {w : World} {v : Value} {xs : List Int} (h : Sl w.heap.size w v xs) {n : Int} (h1 : -4611686018427387904 ≤ n) (h2 : n ≤ 1048576) (hl : xs.length ≤ 35184371000000) :
    Calls Tryd.prog 53 #[v, .int .i64 n] w (MovedTo w (mv (vn xs) n) (xs.length + 16385)) := by
  by_cases hn : n < 0
  · obtain ⟨k, hk⟩ : ∃ k : Nat, -n = (k : Int) := ⟨(-n).toNat, by omega⟩
    have HS := hid (shr_any h (n := k) (by omega))
    have HM : mv (vn xs) n = vn xs / 2 ^ k := by
      unfold mv; rw [if_pos hn, hk, Int.toNat_natCast]
    rw [HM]
    have dn : decide (n < 0) = true := decide_eq_true hn
    rw [← hk] at HS
    clear HM h hk
    go_enter Tryd.func53, Tryd.ntmps53
    go_wp2_with fail
    refine HS.out.mono ?_
    rintro e w1 ⟨zs, u, rfl, o1, q1, v1, l1, b1⟩
    go_wp2
    go_ret
    exact ⟨zs, u, rfl, o1, q1, v1, by omega, b1⟩
  · obtain ⟨k, rfl⟩ := Int.eq_ofNat_of_zero_le (show 0 ≤ n by omega)
    have HS := hid (shl_any h (n := k) (by omega) hl)
    have HM : mv (vn xs) (k : Int) = vn xs * 2 ^ k := by
      unfold mv; rw [if_neg hn, Int.toNat_natCast]
    rw [HM]
    clear HM h
    go_enter Tryd.func53, Tryd.ntmps53
    go_wp2_with fail
    refine HS.out.mono ?_
    rintro e w1 ⟨zs, u, rfl, o1, q1, v1, l1, b1⟩
    go_wp2
    go_ret
    exact ⟨zs, u, rfl, o1, q1, v1, l1, b1⟩
theorem one_word {xs : List Int} (hc : Canon xs) (hv : vn xs < 2 ^ 64) (hne : xs ≠ []) : ∃ x, xs = [x] ∧ (x : Int) = (vn xs : Int) := by
  have hval := val_vn hc.1
  have hl : xs.length ≤ 1 := canon_len hc (by rw [hval]; simp only [pw, wB]; omega)
  match xs, hne with
  | [x], _ => exact ⟨x, rfl, by rw [← hval]; simp [val]⟩
  | _ :: _ :: _, _ => simp at hl
set_option maxHeartbeats 800000 in
theorem word_any {B : Nat} {w : World} {v : Value} {xs : List Int} (h : Sl B w v xs) (hc : Canon xs) (hv : vn xs < 2 ^ 64) :
    Calls Tryd.prog 71 #[v] w fun e w' => e = .returned (.int .u64 (vn xs)) ∧ w' = w := by
  obtain ⟨hw, a, cap, rfl, hlc, hcm, hm⟩ := h
  by_cases hne : xs = []
  · subst hne
    have h0 : ((0 : Int) == 0) = true := rfl
    simp only [List.length_nil]
    go_enter Tryd.func71, Tryd.ntmps71
    go_wp2
    go_ret
    exact ⟨rfl, rfl⟩
  · obtain ⟨x, rfl, hx⟩ := one_word hc hv hne
    rw [← hx]
    rcases hm with e | ⟨b, off, rfl, hb, hcl⟩
    · exact absurd e hne
    have c0 : w.cell? ⟨b, off, none⟩ = some (.int .u64 x) := hcl 0 (by simp)
    have h0 : ((1 : Int) == 0) = false := rfl
    clear hcl hx hv hc hw hne
    simp only [List.length_cons, List.length_nil, Nat.zero_add] at hlc ⊢
    go_enter Tryd.func71, Tryd.ntmps71
    go_wp2
    go_ret
    exact ⟨rfl, rfl⟩

/-- If the last place that is cut off, and those behind it, make one more. -/
def gu (S : Nat) (p : Int) (c : Nat) : Bool := decide (0 < p ∧ (2 ^ p.toNat < 2 * (S % 2 ^ p.toNat) ∨ (2 ^ p.toNat = 2 * (S % 2 ^ p.toNat) ∧ c % 2 = 1)))
theorem gu_no {S c : Nat} {p : Int} (h : p ≤ 0) : gu S p c = false := by unfold gu; exact decide_eq_false (by omega)
theorem rnd_gu (S : Nat) (p : Int) (h : 0 < p) : rnd S p = S / 2 ^ p.toNat + (if gu S p (S / 2 ^ p.toNat) = true then 1 else 0) := by
  unfold rnd gu
  rw [if_neg (by omega)]
  simp [h]
theorem half_parts (S k : Nat) : S % 2 ^ (k + 1) = S % 2 ^ k + 2 ^ k * (S / 2 ^ k % 2) := Nat.mod_pow_succ
theorem gu_bit0 {S k c : Nat} (h : S / 2 ^ k % 2 ≠ 1) : gu S ((k + 1 : Nat) : Int) c = false := by
  have hP := Nat.two_pow_pos k
  have hm := Nat.mod_lt S hP
  unfold gu
  rw [Int.toNat_natCast, half_parts, show S / 2 ^ k % 2 = 0 by omega, Nat.pow_succ]
  refine decide_eq_false ?_
  omega
theorem gu_odd {S k c : Nat} (h : S / 2 ^ k % 2 = 1) (hc : c % 2 = 1) : gu S ((k + 1 : Nat) : Int) c = true := by
  have hP := Nat.two_pow_pos k
  unfold gu
  rw [Int.toNat_natCast, half_parts, h, Nat.pow_succ]
  refine decide_eq_true ?_
  omega
theorem gu_even {S k c t : Nat} (h : S / 2 ^ k % 2 = 1) (hc : c % 2 ≠ 1) (ht : Odd2 S t) : gu S ((k + 1 : Nat) : Int) c = decide (t < k) := by
  have hP := Nat.two_pow_pos k
  have key : t < k ↔ 0 < S % 2 ^ k := by
    obtain ⟨m, rfl⟩ := ht
    constructor
    · intro q
      refine Nat.pos_of_ne_zero fun z => ?_
      have d : 2 ^ k ∣ 2 ^ t * (2 * m + 1) := Nat.dvd_of_mod_eq_zero z
      have d2 : 2 ^ (t + 1) ∣ 2 ^ t * (2 * m + 1) := Nat.dvd_trans (Nat.pow_dvd_pow 2 (by omega)) d
      rw [Nat.pow_succ] at d2
      have := Nat.dvd_of_mul_dvd_mul_left (Nat.two_pow_pos t) d2
      omega
    · intro q
      refine Classical.byContradiction fun z => ?_
      have : 2 ^ k ∣ 2 ^ t * (2 * m + 1) := Nat.dvd_trans (Nat.pow_dvd_pow 2 (by omega)) (Nat.dvd_mul_right _ _)
      have := Nat.mod_eq_zero_of_dvd this
      omega
  unfold gu
  rw [Int.toNat_natCast, half_parts, h, Nat.pow_succ, decide_eq_decide, key]
  omega
set_option maxHeartbeats 800000 in
theorem goesUp_any {B : Nat} {w : World} {v : Value} {xs : List Int} (h : Sl B w v xs) (hT : Tab w) {p : Int} (h1 : -4611686018427387904 ≤ p) (h2 : p ≤ 4611686018427387904) {c : Nat} (hc : c < 2 ^ 64) :
    Calls Tryd.prog 72 #[v, .int .i64 p, .int .u64 c] w fun e w' => e = .returned (.bool (gu (vn xs) p c)) ∧ w' = w := by
  have HB := hid (bit_any h (i := p - 1) (by omega) (by omega))
  have HTw := hid (twos_any h hT)
  by_cases hp : p ≤ 0
  · have hb : bitAt (vn xs) (p - 1) = 0 := by unfold bitAt; rw [if_pos (by omega)]
    rw [hb] at HB
    rw [gu_no hp]
    have q0 : ((0 : Int) == 1) = false := rfl
    clear HTw h hT hb
    go_enter Tryd.func72, Tryd.ntmps72
    go_wp2_with fail
    refine HB.out.mono ?_
    rintro e w1 ⟨rfl, rfl⟩
    go_wp2
    go_ret
    exact ⟨rfl, rfl⟩
  · obtain ⟨k, rfl⟩ : ∃ k : Nat, p = ((k + 1 : Nat) : Int) := ⟨(p - 1).toNat, by omega⟩
    have e1 : ((k + 1 : Nat) : Int) - 1 = (k : Int) := by omega
    have hb : bitAt (vn xs) (k : Int) = ((vn xs / 2 ^ k % 2 : Nat) : Int) := by unfold bitAt; rw [if_neg (by omega), Int.toNat_natCast]
    rw [e1, hb] at HB
    by_cases hb1 : vn xs / 2 ^ k % 2 = 1
    · rw [hb1, show ((1 : Nat) : Int) = 1 from rfl] at HB
      have q1 : ((1 : Int) == 1) = true := rfl
      by_cases hc1 : c % 2 = 1
      · rw [gu_odd hb1 hc1]
        have q2 : ((c : Int) % 2 == 1) = true := by simp; omega
        clear HTw h hT hb hb1
        go_enter Tryd.func72, Tryd.ntmps72
        go_wp2_with fail
        refine HB.out.mono ?_
        rintro e w1 ⟨rfl, rfl⟩
        go_wp2
        go_ret
        exact ⟨rfl, rfl⟩
      · have q2 : ((c : Int) % 2 == 1) = false := by simp; omega
        have HG : Hid (∀ t, Odd2 (vn xs) t → gu (vn xs) ((k + 1 : Nat) : Int) c = decide (t < k)) := fun t ht => gu_even hb1 hc1 ht
        have HZ : Hid (vn xs ≠ 0) := fun z => by rw [z] at hb1; simp at hb1
        clear h hT hb hb1
        generalize gu (vn xs) ((k + 1 : Nat) : Int) c = GG at *
        go_enter Tryd.func72, Tryd.ntmps72
        go_wp2_with fail
        refine HB.out.mono ?_
        rintro e w1 ⟨rfl, rfl⟩
        go_wp2_with fail
        refine HTw.out.mono ?_
        rintro e w1 ⟨r, rfl, ht, rfl⟩
        rcases ht with ⟨z, _⟩ | ⟨t, rfl, ht⟩
        · exact absurd z HZ.out
        have e2 := HG.out t ht
        go_wp2
        go_ret
        exact ⟨by rw [e2]; congr 2, rfl⟩
    · have hb0 : vn xs / 2 ^ k % 2 = 0 := by omega
      rw [hb0, show ((0 : Nat) : Int) = 0 from rfl] at HB
      rw [gu_bit0 hb1]
      have q0 : ((0 : Int) == 1) = false := rfl
      clear HTw h hT hb hb1 hb0
      go_enter Tryd.func72, Tryd.ntmps72
      go_wp2_with fail
      refine HB.out.mono ?_
      rintro e w1 ⟨rfl, rfl⟩
      go_wp2
      go_ret
      exact ⟨rfl, rfl⟩
end Go.Proofs.YtbamffggnnacaaaDoor
