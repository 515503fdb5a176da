/-
  QWn7ToAddTo: Wn7, AddTo, joined.
-/
import Derived.Test.YtbamffggnnacaaaDoorQCarryToWf7
import Derived.Test.YtbamffggnnacaaaDoorQTwosToOpenTab7
import Derived.Test.YtbamffggnnacaaaDoorQShr
import Derived.Test.YtbamffggnnacaaaDoorQProd

/- Wn7 -/
namespace Go.Proofs.YtbamffggnnacaaaDoor
open Go.RowKit
set_option linter.unusedVariables false

/-- A call that answers a list of its own. -/
def MovedTo (w : World) (s : Nat) (k : Nat) (e : Ending) (w' : World) : Prop :=
  ∃ zs v, e = .returned v ∧ Own w.heap.size w' v zs ∧ Canon zs ∧ vn zs = s ∧ zs.length ≤ k ∧ Below w.heap.size w w'
set_option maxHeartbeats 800000 in
theorem moved_any {w : World} {v : Value} {xs : List Int} (h : Sl w.heap.size w v xs) {n : Int} (h1 : -4611686018427387904 ≤ n) (h2 : n ≤ 1048576) (hl : xs.length ≤ 35184371000000) :
    Calls Tryd.prog 53 #[v, .int .i64 n] w (MovedTo w (mv (vn xs) n) (xs.length + 16385)) := by
  by_cases hn : n < 0
  · obtain ⟨k, hk⟩ : ∃ k : Nat, -n = (k : Int) := ⟨(-n).toNat, by omega⟩
    have HS := hid (shr_any h (n := k) (by omega))
    have HM : mv (vn xs) n = vn xs / 2 ^ k := by
      unfold mv; rw [if_pos hn, hk, Int.toNat_natCast]
    rw [HM]
    have dn : decide (n < 0) = true := decide_eq_true hn
    rw [← hk] at HS
    clear HM h hk
    go_enter Tryd.func53, Tryd.ntmps53
    go_wp2_with fail
    refine HS.out.mono ?_
    rintro e w1 ⟨zs, u, rfl, o1, q1, v1, l1, b1⟩
    go_wp2
    go_ret
    exact ⟨zs, u, rfl, o1, q1, v1, by omega, b1⟩
  · obtain ⟨k, rfl⟩ := Int.eq_ofNat_of_zero_le (show 0 ≤ n by omega)
    have HS := hid (shl_any h (n := k) (by omega) hl)
    have HM : mv (vn xs) (k : Int) = vn xs * 2 ^ k := by
      unfold mv; rw [if_neg hn, Int.toNat_natCast]
    rw [HM]
    clear HM h
    go_enter Tryd.func53, Tryd.ntmps53
    go_wp2_with fail
    refine HS.out.mono ?_
    rintro e w1 ⟨zs, u, rfl, o1, q1, v1, l1, b1⟩
    go_wp2
    go_ret
    exact ⟨zs, u, rfl, o1, q1, v1, l1, b1⟩
theorem one_word {xs : List Int} (hc : Canon xs) (hv : vn xs < 2 ^ 64) (hne : xs ≠ []) : ∃ x, xs = [x] ∧ (x : Int) = (vn xs : Int) := by
  have hval := val_vn hc.1
  have hl : xs.length ≤ 1 := canon_len hc (by rw [hval]; simp only [pw, wB]; omega)
  match xs, hne with
  | [x], _ => exact ⟨x, rfl, by rw [← hval]; simp [val]⟩
  | _ :: _ :: _, _ => simp at hl
set_option maxHeartbeats 800000 in
theorem word_any {B : Nat} {w : World} {v : Value} {xs : List Int} (h : Sl B w v xs) (hc : Canon xs) (hv : vn xs < 2 ^ 64) :
    Calls Tryd.prog 71 #[v] w fun e w' => e = .returned (.int .u64 (vn xs)) ∧ w' = w := by
  obtain ⟨hw, a, cap, rfl, hlc, hcm, hm⟩ := h
  by_cases hne : xs = []
  · subst hne
    have h0 : ((0 : Int) == 0) = true := rfl
    simp only [List.length_nil]
    go_enter Tryd.func71, Tryd.ntmps71
    go_wp2
    go_ret
    exact ⟨rfl, rfl⟩
  · obtain ⟨x, rfl, hx⟩ := one_word hc hv hne
    rw [← hx]
    rcases hm with e | ⟨b, off, rfl, hb, hcl⟩
    · exact absurd e hne
    have c0 : w.cell? ⟨b, off, none⟩ = some (.int .u64 x) := hcl 0 (by simp)
    have h0 : ((1 : Int) == 0) = false := rfl
    clear hcl hx hv hc hw hne
    simp only [List.length_cons, List.length_nil, Nat.zero_add] at hlc ⊢
    go_enter Tryd.func71, Tryd.ntmps71
    go_wp2
    go_ret
    exact ⟨rfl, rfl⟩

/-- If the last place that is cut off, and those behind it, make one more. -/
def gu (S : Nat) (p : Int) (c : Nat) : Bool := decide (0 < p ∧ (2 ^ p.toNat < 2 * (S % 2 ^ p.toNat) ∨ (2 ^ p.toNat = 2 * (S % 2 ^ p.toNat) ∧ c % 2 = 1)))
theorem gu_no {S c : Nat} {p : Int} (h : p ≤ 0) : gu S p c = false := by unfold gu; exact decide_eq_false (by omega)
theorem rnd_gu (S : Nat) (p : Int) (h : 0 < p) : rnd S p = S / 2 ^ p.toNat + (if gu S p (S / 2 ^ p.toNat) = true then 1 else 0) := by
  unfold rnd gu
  rw [if_neg (by omega)]
  simp [h]
theorem half_parts (S k : Nat) : S % 2 ^ (k + 1) = S % 2 ^ k + 2 ^ k * (S / 2 ^ k % 2) := Nat.mod_pow_succ
theorem gu_bit0 {S k c : Nat} (h : S / 2 ^ k % 2 ≠ 1) : gu S ((k + 1 : Nat) : Int) c = false := by
  have hP := Nat.two_pow_pos k
  have hm := Nat.mod_lt S hP
  unfold gu
  rw [Int.toNat_natCast, half_parts, show S / 2 ^ k % 2 = 0 by omega, Nat.pow_succ]
  refine decide_eq_false ?_
  omega
theorem gu_odd {S k c : Nat} (h : S / 2 ^ k % 2 = 1) (hc : c % 2 = 1) : gu S ((k + 1 : Nat) : Int) c = true := by
  have hP := Nat.two_pow_pos k
  unfold gu
  rw [Int.toNat_natCast, half_parts, h, Nat.pow_succ]
  refine decide_eq_true ?_
  omega
theorem gu_even {S k c t : Nat} (h : S / 2 ^ k % 2 = 1) (hc : c % 2 ≠ 1) (ht : Odd2 S t) : gu S ((k + 1 : Nat) : Int) c = decide (t < k) := by
  have hP := Nat.two_pow_pos k
  have key : t < k ↔ 0 < S % 2 ^ k := by
    obtain ⟨m, rfl⟩ := ht
    constructor
    · intro q
      refine Nat.pos_of_ne_zero fun z => ?_
      have d : 2 ^ k ∣ 2 ^ t * (2 * m + 1) := Nat.dvd_of_mod_eq_zero z
      have d2 : 2 ^ (t + 1) ∣ 2 ^ t * (2 * m + 1) := Nat.dvd_trans (Nat.pow_dvd_pow 2 (by omega)) d
      rw [Nat.pow_succ] at d2
      have := Nat.dvd_of_mul_dvd_mul_left (Nat.two_pow_pos t) d2
      omega
    · intro q
      refine Classical.byContradiction fun z => ?_
      have : 2 ^ k ∣ 2 ^ t * (2 * m + 1) := Nat.dvd_trans (Nat.pow_dvd_pow 2 (by omega)) (Nat.dvd_mul_right _ _)
      have := Nat.mod_eq_zero_of_dvd this
      omega
  unfold gu
  rw [Int.toNat_natCast, half_parts, h, Nat.pow_succ, decide_eq_decide, key]
  omega
set_option maxHeartbeats 800000 in
theorem goesUp_any {B : Nat} {w : World} {v : Value} {xs : List Int} (h : Sl B w v xs) (hT : Tab w) {p : Int} (h1 : -4611686018427387904 ≤ p) (h2 : p ≤ 4611686018427387904) {c : Nat} (hc : c < 2 ^ 64) :
    Calls Tryd.prog 72 #[v, .int .i64 p, .int .u64 c] w fun e w' => e = .returned (.bool (gu (vn xs) p c)) ∧ w' = w := by
  have HB := hid (bit_any h (i := p - 1) (by omega) (by omega))
  have HTw := hid (twos_any h hT)
  by_cases hp : p ≤ 0
  · have hb : bitAt (vn xs) (p - 1) = 0 := by unfold bitAt; rw [if_pos (by omega)]
    rw [hb] at HB
    rw [gu_no hp]
    have q0 : ((0 : Int) == 1) = false := rfl
    clear HTw h hT hb
    go_enter Tryd.func72, Tryd.ntmps72
    go_wp2_with fail
    refine HB.out.mono ?_
    rintro e w1 ⟨rfl, rfl⟩
    go_wp2
    go_ret
    exact ⟨rfl, rfl⟩
  · obtain ⟨k, rfl⟩ : ∃ k : Nat, p = ((k + 1 : Nat) : Int) := ⟨(p - 1).toNat, by omega⟩
    have e1 : ((k + 1 : Nat) : Int) - 1 = (k : Int) := by omega
    have hb : bitAt (vn xs) (k : Int) = ((vn xs / 2 ^ k % 2 : Nat) : Int) := by unfold bitAt; rw [if_neg (by omega), Int.toNat_natCast]
    rw [e1, hb] at HB
    by_cases hb1 : vn xs / 2 ^ k % 2 = 1
    · rw [hb1, show ((1 : Nat) : Int) = 1 from rfl] at HB
      have q1 : ((1 : Int) == 1) = true := rfl
      by_cases hc1 : c % 2 = 1
      · rw [gu_odd hb1 hc1]
        have q2 : ((c : Int) % 2 == 1) = true := by simp; omega
        clear HTw h hT hb hb1
        go_enter Tryd.func72, Tryd.ntmps72
        go_wp2_with fail
        refine HB.out.mono ?_
        rintro e w1 ⟨rfl, rfl⟩
        go_wp2
        go_ret
        exact ⟨rfl, rfl⟩
      · have q2 : ((c : Int) % 2 == 1) = false := by simp; omega
        have HG : Hid (∀ t, Odd2 (vn xs) t → gu (vn xs) ((k + 1 : Nat) : Int) c = decide (t < k)) := fun t ht => gu_even hb1 hc1 ht
        have HZ : Hid (vn xs ≠ 0) := fun z => by rw [z] at hb1; simp at hb1
        clear h hT hb hb1
        generalize gu (vn xs) ((k + 1 : Nat) : Int) c = GG at *
        go_enter Tryd.func72, Tryd.ntmps72
        go_wp2_with fail
        refine HB.out.mono ?_
        rintro e w1 ⟨rfl, rfl⟩
        go_wp2_with fail
        refine HTw.out.mono ?_
        rintro e w1 ⟨r, rfl, ht, rfl⟩
        rcases ht with ⟨z, _⟩ | ⟨t, rfl, ht⟩
        · exact absurd z HZ.out
        have e2 := HG.out t ht
        go_wp2
        go_ret
        exact ⟨by rw [e2]; congr 2, rfl⟩
    · have hb0 : vn xs / 2 ^ k % 2 = 0 := by omega
      rw [hb0, show ((0 : Nat) : Int) = 0 from rfl] at HB
      rw [gu_bit0 hb1]
      have q0 : ((0 : Int) == 1) = false := rfl
      clear HTw h hT hb hb1 hb0
      go_enter Tryd.func72, Tryd.ntmps72
      go_wp2_with fail
      refine HB.out.mono ?_
      rintro e w1 ⟨rfl, rfl⟩
      go_wp2
      go_ret
      exact ⟨rfl, rfl⟩
end Go.Proofs.YtbamffggnnacaaaDoor

/- AddTo -/
namespace Go.Proofs.YtbamffggnnacaaaDoor
open Go.RowKit

set_option maxHeartbeats 800000 in
theorem addTo_any {g : Nat} {w : World} {u : Value} {zs0 ys : List Int} {r : List Value} {cap : Nat} (hz0 : WF zs0) (hrow : Row w g (ws zs0 ++ r)) (hlz : zs0.length ≤ 35184372088832) (hy : Sl g w u ys) (hl : ys.length ≤ zs0.length) :
    Calls Tryd.prog 69 #[.slice (some ⟨g, 0, none⟩) zs0.length cap, u] w fun e w' =>
      ∃ zs c, e = .returned (.int .u64 c) ∧ zs.length = zs0.length ∧ WF zs ∧ 0 ≤ c ∧ c ≤ 1 ∧ val zs + pw zs0.length * c = val zs0 + val ys ∧ Row w' g (ws zs ++ r) ∧ Below g w w' := by
  obtain ⟨hwy, a, capy, rfl, hlc, hcm, hm⟩ := hy
  have HV0 : Hid (val zs0 + pw 0 * 0 = val zs0 + val (ys.take 0)) := by unfold Hid; simp [val]
  have HTL : Hid (ys.take ys.length = ys) := by unfold Hid; simp
  obtain ⟨m, hmz⟩ : ∃ m, m = zs0.length := ⟨_, rfl⟩
  obtain ⟨n, hny⟩ : ∃ n, n = ys.length := ⟨_, rfl⟩
  rw [← hmz] at hl hlz
  rw [← hny] at hl hlc HTL
  rw [← hmz, ← hny]
  have HM : Hid (m = zs0.length) := hmz
  have HN : Hid (n = ys.length) := hny
  clear hmz hny
  go_enter Tryd.func69, Tryd.ntmps69
  go_wp2_with fail
  go_loopw [5, 10] (fun c i wr => ∃ (k : Nat) (zs : List Int) (cc : Int), k ≤ n ∧ i = .int .i64 k ∧ c = .int .u64 cc ∧ 0 ≤ cc ∧ cc ≤ 1 ∧ Hid (zs.length = m) ∧ WF zs ∧ Hid (val zs + pw k * cc = val zs0 + val (ys.take k)) ∧ Row wr g (ws zs ++ r) ∧ Below g w wr) (fun _ i _ => n - (intOf i).toNat)
  case atStart => exact ⟨0, zs0, 0, Nat.zero_le _, rfl, rfl, by omega, by omega, HM.out.symm, hz0, HV0, hrow, Below.refl _ _⟩
  case round =>
    obtain ⟨k, zs, cc, hk, rfl, rfl, hc0, hc1, HL, hwz, HV, hr, hb⟩ := hrel
    by_cases hlt : k < n
    · have hk1 : k < zs.length := by have := HL.out; omega
      have hk2 : k < ys.length := by have := HN.out; omega
      rcases hm with e | ⟨b, off, rfl, hbg, hcy⟩
      · subst e; simp at hk2
      have c1 : wr.cell? ⟨g, k, none⟩ = some (.int .u64 zs[k]) := hr.word hk1
      have c2 : wr.cell? ⟨b, off + k, none⟩ = some (.int .u64 ys[k]) := (hb.cell (p := ⟨b, off + k, none⟩) hbg).trans (hcy k hk2)
      have cf : wr.frozen? ⟨g, k, none⟩ = false := hr.frozen k
      obtain ⟨s, d, hs, hd0, hd1, hsum, hadd⟩ := add64_run (hwz.get hk1) (hwy.get hk2) hc0 hc1
      have HV' : Hid (val (zs.set k s) + pw (k + 1) * d = val zs0 + val (ys.take (k + 1))) := carry_step hk1 HV.out (val_take_succ ys k hk2) hsum rfl
      have hwz' : WF (zs.set k s) := hwz.set k hs
      have HR := hr.setWord hk1 s
      have HB := hb.setCell (p := ⟨g, k, none⟩) (Nat.le_refl _) (.int .u64 s)
      clear hsum hs
      generalize zs[k] = x at *
      generalize ys[k] = y at *
      have HL' : Hid ((zs.set k s).length = m) := by unfold Hid; rw [List.length_set]; exact HL.out
      generalize zs.set k s = zs' at *
      clear hcy hr hb hwz HV hrow HL
      go_wp2_with fail
      have i0 : (0 : Int) ≤ (k : Int) := by omega
      have i1 : (k : Int) < (n : Int) := by omega
      have i2 : (k : Int) < (m : Int) := by omega
      go_region
      go_wp2
      go_roundw
      case rel => exact ⟨k + 1, zs', d, by omega, by go_num, rfl, hd0, hd1, HL', hwz', HV', HR.drewN 1, HB.drew⟩
      case measure => simp [intOf]; omega
    · obtain rfl : k = n := by omega
      rw [HTL.out] at HV
      clear hm hrow hz0 hwy HTL HV0
      go_wp2_with fail
      go_loopw [5, 7] (fun c i wr => ∃ (j : Nat) (zs : List Int) (cc : Int), j ≤ m ∧ i = .int .i64 j ∧ c = .int .u64 cc ∧ 0 ≤ cc ∧ cc ≤ 1 ∧ Hid (zs.length = m) ∧ WF zs ∧ Hid (val zs + pw j * cc = val zs0 + val ys) ∧ Row wr g (ws zs ++ r) ∧ Below g w wr) (fun _ i _ => m - (intOf i).toNat)
      case atStart => exact ⟨k, zs, cc, hl, rfl, rfl, hc0, hc1, HL, hwz, HV, hr, hb⟩
      case round =>
        clear HV hr hb hwz HL hc0 hc1
        obtain ⟨j, zs, cc, hj, rfl, rfl, hc0, hc1, HL, hwz, HV, hr, hb⟩ := hrel
        by_cases hcc : cc = 0
        · have hcb : (cc != 0) = false := by simp [hcc]
          have HCC : Hid (cc = 0) := hcc
          clear hcc
          go_wp2
          go_ret
          refine ⟨zs, cc, rfl, HL.out, hwz, hc0, hc1, ?_, hr, hb⟩
          have := HV.out
          rw [HCC.out] at this ⊢
          simpa using this
        · have hcb : (cc != 0) = true := by simp [hcc]
          clear hcc
          by_cases hlt : j < m
          · have hk1 : j < zs.length := by have := HL.out; omega
            have c1 : wr.cell? ⟨g, j, none⟩ = some (.int .u64 zs[j]) := hr.word hk1
            have cf : wr.frozen? ⟨g, j, none⟩ = false := hr.frozen j
            obtain ⟨s, d, hs, hd0, hd1, hsum, hadd⟩ := add64_run (hwz.get hk1) (show IsW 0 by unfold IsW wB; omega) hc0 hc1
            have HV' : Hid (val (zs.set j s) + pw (j + 1) * d = val zs0 + val ys) := carry_step hk1 HV.out (y := 0) (by simp) hsum rfl
            have hwz' : WF (zs.set j s) := hwz.set j hs
            have HR := hr.setWord hk1 s
            have HB := hb.setCell (p := ⟨g, j, none⟩) (Nat.le_refl _) (.int .u64 s)
            clear hsum hs
            generalize zs[j] = x at *
            have HL' : Hid ((zs.set j s).length = m) := by unfold Hid; rw [List.length_set]; exact HL.out
            generalize zs.set j s = zs' at *
            clear hr hb hwz HV HL
            have i0 : (0 : Int) ≤ (j : Int) := by omega
            have i2 : (j : Int) < (m : Int) := by omega
            go_wp2
            go_roundw
            case rel => exact ⟨j + 1, zs', d, by omega, by go_num, rfl, hd0, hd1, HL', hwz', HV', HR, HB⟩
            case measure => simp [intOf]; omega
          · obtain rfl : j = m := by omega
            go_wp2
            go_ret
            exact ⟨zs, cc, rfl, HL.out, hwz, hc0, hc1, HV.out, hr, hb⟩
end Go.Proofs.YtbamffggnnacaaaDoor
