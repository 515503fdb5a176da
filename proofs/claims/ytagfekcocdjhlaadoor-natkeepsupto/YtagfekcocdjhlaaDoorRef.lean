/-
  Ref: rows of ints; the reference's trim, at, order, power.
-/
import Derived.Test.YtagfekcocdjhlaaDoorDWords
import Derived.Test.YtagfekcocdjhlaaDoorSlInts
import Derived.Test.YtagfekcocdjhlaaDoorHalves0
namespace Go.Proofs.YtagfekcocdjhlaaDoor
open Go.RowKit

theorem SlI.below {B : Nat} {w w' : World} {v : Value} {xs : List Int} (h : SlI B w v xs) (hb : Below B w w') : SlI B w' v xs := by
  obtain ⟨h1, a, cap, h2, h3, h4, h5⟩ := h
  refine ⟨h1, a, cap, h2, h3, h4, ?_⟩
  rcases h5 with h5 | ⟨b, off, h6, h7, h8⟩
  · exact .inl h5
  · exact .inr ⟨b, off, h6, h7, fun j hj => (hb.cell (p := ⟨b, off + j, none⟩) h7).trans (h8 j hj)⟩

set_option maxHeartbeats 400000 in
theorem trim_any {B : Nat} {w : World} {v : Value} {xs : List Int} (h : SlI B w v xs) :
    Calls Tryd.prog 62 #[v] w fun e w' => ∃ r, e = .returned r ∧ SlI B w r (dlst xs) ∧ w' = w := by
  have hs := h
  obtain ⟨hw, a, cap, rfl, hlc, hcm, hm⟩ := h
  have HW : Hid (∀ n : Nat, n ≤ xs.length → (∀ j (h : j < xs.length), n ≤ j → xs[j] = 0) → (0 < n → ∀ h' : n - 1 < xs.length, xs[n - 1] ≠ 0) → dwid xs = n) := fun n h1 h2 h3 => dwid_is h1 h2 h3
  have HF : Hid (∀ n, dwid xs = n → SlI B w (.slice a n cap) (dlst xs)) := fun n hn => by
    subst hn
    have l := dwid_le xs
    refine ⟨fun p hp => hw p (List.mem_of_mem_take hp), a, cap, by rw [dlength_lst], by rw [dlength_lst]; omega, hcm, ?_⟩
    rcases hm with rfl | ⟨b, off, h1, h2, h3⟩
    · exact .inl rfl
    · refine .inr ⟨b, off, h1, h2, fun j hj => ?_⟩
      rw [dlength_lst] at hj
      rw [h3 j (by omega), dlst_get hj]
  have HM := hid hm
  clear hs
  go_enter Tryd.func62, Tryd.ntmps62
  go_wp2
  go_loop [3] (fun i => ∃ n : Nat, n ≤ xs.length ∧ i = .int .i64 n ∧ ∀ j (h : j < xs.length), n ≤ j → xs[j] = 0) (fun i => (intOf i).toNat)
  case atStart => exact ⟨xs.length, Nat.le_refl _, rfl, fun j h h' => by omega⟩
  case round =>
    obtain ⟨n, hn, rfl, hz⟩ := hrel
    have HZ := hid hz
    clear hz hm
    by_cases h0 : n = 0
    · subst h0
      go_wp2
      go_ret
      exact ⟨_, rfl, HF.out 0 (HW.out 0 (by omega) HZ.out (by omega)), rfl⟩
    · obtain ⟨k, rfl⟩ : ∃ k, n = k + 1 := ⟨n - 1, by omega⟩
      rcases HM.out with rfl | ⟨b, off, rfl, hb, hc⟩
      · simp at hn
      · have hk : k < xs.length := by omega
        have hck := hc k hk
        obtain ⟨x, hx⟩ : ∃ x, x = xs[k] := ⟨_, rfl⟩
        rw [← hx] at hck
        have HX : Hid (x = xs[k]) := hx
        clear hx hc h0
        by_cases hx0 : x = 0
        · have ht : (x == 0) = true := by simp [hx0]
          go_wp2
          go_round
          case rel =>
            refine ⟨k, by omega, rfl, fun j h hj => ?_⟩
            by_cases e : j = k
            · subst e; rw [← HX.out]; exact hx0
            · exact HZ.out j h (by omega)
          case measure => simp [intOf]
        · have ht : (x == 0) = false := by simp [hx0]
          go_wp2
          go_ret
          exact ⟨_, rfl, HF.out (k + 1) (HW.out (k + 1) hn HZ.out (fun _ h' => by have := HX.out; simp at h' ⊢; rw [← this]; exact hx0)), rfl⟩

theorem at_any {B : Nat} {w : World} {v : Value} {xs : List Int} (h : SlI B w v xs) (k : Nat) :
    Calls Tryd.prog 46 #[v, .int .i64 (k : Int)] w fun e w' => e = .returned (.int .i64 (xs.getD k 0)) ∧ w' = w := by
  obtain ⟨hw, a, cap, rfl, hlc, hcm, hm⟩ := h
  by_cases hk : k < xs.length
  · rcases hm with rfl | ⟨b, off, rfl, hb, hc⟩
    · simp at hk
    have c1 := hc k hk
    have e : xs.getD k 0 = xs[k] := by simp [hk]
    rw [e]
    generalize xs[k] = x at *
    clear hc e
    go_enter Tryd.func46, Tryd.ntmps46
    go_wp2
    go_ret
    exact ⟨rfl, rfl⟩
  · have e : xs.getD k 0 = 0 := by simp [show xs.length ≤ k by omega]
    rw [e]
    clear hm e
    go_enter Tryd.func46, Tryd.ntmps46
    go_wp2
    go_ret
    exact ⟨rfl, rfl⟩

theorem power_any (k : Nat) (hk : k ≤ 16) (w : World) :
    Calls Tryd.prog 49 #[.int .i64 (k : Int)] w fun e w' => e = .returned (.int .i64 ((2 ^ k : Nat) : Int)) ∧ w' = w := by
  obtain ⟨T, hT⟩ : ∃ T : Nat, T = 2 ^ k := ⟨_, rfl⟩
  have HT := hid hT
  rw [← hT]
  clear hT
  go_enter Tryd.func49, Tryd.ntmps49
  go_wp2
  go_loop [3, 4] (fun p i => ∃ n P : Nat, n ≤ k ∧ i = .int .i64 n ∧ p = .int .i64 (P : Int) ∧ P ≤ 65536 ∧ Hid (P = 2 ^ n)) (fun _ i => k - (intOf i).toNat)
  case atStart => exact ⟨0, 1, Nat.zero_le _, rfl, rfl, by omega, rfl⟩
  case round =>
    obtain ⟨n, P, hn, rfl, rfl, hP, HP⟩ := hrel
    by_cases hlt : n < k
    · have hP2 : Hid (2 * P = 2 ^ (n + 1)) := by unfold Hid; rw [HP.out, Nat.pow_succ]; omega
      have hP3 : 2 * P ≤ 65536 := by
        rw [hP2.out]
        exact Nat.le_trans (Nat.pow_le_pow_right (by omega) (show n + 1 ≤ 16 by omega)) (by decide)
      go_wp2
      go_round
      case rel => exact ⟨n + 1, 2 * P, by omega, by go_num, by go_num, hP3, hP2.out⟩
      case measure => simp [intOf]; omega
    · obtain rfl : n = k := by omega
      go_wp2
      go_ret
      exact ⟨by rw [HT.out, ← HP.out]; rfl, rfl⟩

theorem drew_ex {w wr : World} (h : ∃ q, wr = w.drewN q) (n : Nat) : ∃ q, wr.drewN n = w.drewN q := by obtain ⟨q, rfl⟩ := h; exact ⟨q + n, by rw [World.drewN_drewN]⟩

set_option maxHeartbeats 1600000 in
theorem rorder_any {B : Nat} {w : World} {v u : Value} {xs ys : List Int} (h : SlI B w v xs) (h' : SlI B w u ys) (hx : DCanon xs) (hy : DCanon ys) :
    Calls Tryd.prog 48 #[v, u] w fun e w' => e = .returned (.int .i64 (cmpI (dval xs) (dval ys))) ∧ ∃ n, w' = w.drewN n := by
  obtain ⟨hw, a, cap, rfl, hlc, hcm, hm⟩ := h
  obtain ⟨hw', a', cap', rfl, hlc', hcm', hm'⟩ := h'
  by_cases hne : xs.length = ys.length
  · have HE : Hid ((∀ j (h1 : j < xs.length) (h2 : j < ys.length), xs[j] = ys[j]) → cmpI (dval xs) (dval ys) = 0) := fun he => by
      rw [List.ext_getElem hne he, cmpI_self]
    have HH : Hid (∀ j (h1 : j < xs.length) (h2 : j < ys.length), (∀ i (h1 : i < xs.length) (h2 : i < ys.length), j < i → xs[i] = ys[i]) → xs[j] ≠ ys[j] → cmpI (dval xs) (dval ys) = cmpI xs[j] ys[j]) := fun j h1 h2 he hq => by
      refine dcmp_at hx.1 hy.1 hne h1 ?_ hq
      refine List.ext_getElem (by simp; omega) (fun i h3 h4 => ?_)
      simp only [List.getElem_drop]
      simp only [List.length_drop] at h3 h4
      exact he _ _ _ (by omega)
    generalize cmpI (dval xs) (dval ys) = C at *
    have HNE := hid hne
    obtain ⟨n, hn⟩ : ∃ n, n = ys.length := ⟨_, rfl⟩
    rw [← hn] at hne hlc'
    rw [hne, ← hn]
    rw [hne] at hlc
    have HN := hid hn
    have hnn : ((n : Int) != (n : Int)) = false := by simp
    clear hne hw hw' hn
    go_enter Tryd.func48, Tryd.ntmps48
    go_wp2_with fail
    go_loopw [5] (fun i wr => ∃ k : Nat, k ≤ n ∧ i = .int .i64 ((k : Int) - 1) ∧ (∃ q, wr = w.drewN q) ∧ ∀ j (h1 : j < xs.length) (h2 : j < ys.length), k ≤ j → xs[j] = ys[j]) (fun i _ => (intOf i + 1).toNat)
    case atStart => exact ⟨n, Nat.le_refl _, rfl, ⟨0, rfl⟩, fun j h1 h2 h => by have := HN.out; omega⟩
    case round =>
      obtain ⟨k, hk, rfl, hq, he⟩ := hrel
      have hcw : ∀ a, wr.cell? a = w.cell? a := by obtain ⟨q, rfl⟩ := hq; intro a; rfl
      have HQ := hid hq
      have HR := hid he
      clear hq he
      by_cases hk0 : k = 0
      · subst hk0
        clear hcw
        go_wp2_with fail
        go_ret
        refine ⟨?_, HQ.out⟩
        rw [HE.out (fun j h1 h2 => HR.out j h1 h2 (by omega))]
        rfl
      · obtain ⟨j, rfl⟩ : ∃ j, k = j + 1 := ⟨k - 1, by omega⟩
        have hj2 : j < ys.length := by have := HN.out; omega
        have hj1 : j < xs.length := by have := HNE.out; omega
        rcases hm with e | ⟨b, off, rfl, hb, hc⟩
        · subst e; simp at hj1
        rcases hm' with e | ⟨b', off', rfl, hb', hc'⟩
        · subst e; simp at hj2
        have c1 : wr.cell? ⟨b, off + j, none⟩ = some (.int .i64 xs[j]) := by rw [hcw]; exact hc j hj1
        have c2 : wr.cell? ⟨b', off' + j, none⟩ = some (.int .i64 ys[j]) := by rw [hcw]; exact hc' j hj2
        clear hcw hc hc'
        have HXY := hid (HH.out j hj1 hj2 (fun i h1 h2 h3 => HR.out i h1 h2 (by omega)))
        have HX : Hid (∀ i (h1 : i < xs.length) (h2 : i < ys.length), xs[j] = ys[j] → j ≤ i → xs[i] = ys[i]) := fun i h1 h2 he hi => by
          by_cases e : i = j
          · subst e; exact he
          · exact HR.out i h1 h2 (by omega)
        generalize xs[j] = x at *
        generalize ys[j] = y at *
        clear hk0 HR
        have i0 : (0 : Int) ≤ (j : Int) := by omega
        have i1 : (j : Int) < (n : Int) := by omega
        rcases Int.lt_trichotomy x y with q | q | q
        · go_wp2_with fail
          go_quiet (fail)
          go_wp2
          go_ret
          refine ⟨?_, by obtain ⟨q, hq⟩ := HQ.out; exact ⟨q + nq, by rw [hq, World.drewN_drewN]⟩⟩
          rw [HXY.out (by omega), cmpI_lt q]
          rfl
        · have q1 : ¬ x < y := by omega
          have q2 : ¬ y < x := by omega
          have Q := hid q
          clear q
          go_wp2_with fail
          go_quiet (fail)
          go_wp2_with fail
          go_quiet (fail)
          go_wp2
          go_roundw
          case rel => exact ⟨j, by omega, rfl, drew_ex HQ.out _, fun i h1 h2 h3 => HX.out i h1 h2 Q.out h3⟩
          case measure => simp [intOf]
        · have q1 : ¬ x < y := by omega
          go_wp2_with fail
          go_quiet (fail)
          go_wp2_with fail
          go_quiet (fail)
          go_wp2
          go_ret
          refine ⟨?_, drew_ex (drew_ex HQ.out _) _⟩
          rw [HXY.out (by omega), cmpI_gt q]
          rfl
  · have hnn : ((xs.length : Int) != (ys.length : Int)) = true := by rw [bne_iff_ne]; omega
    have HC : Hid (cmpI (dval xs) (dval ys) = cmpI (xs.length : Int) (ys.length : Int)) := by
      unfold Hid; rw [dcmp_widths hx.1 hy.1 (by rw [hx.2, hy.2]; exact hne), hx.2, hy.2]
    generalize cmpI (dval xs) (dval ys) = C at *
    by_cases hlt : (xs.length : Int) < (ys.length : Int)
    · rw [HC.out, cmpI_lt hlt]
      clear HC hx hy hm hm' hw hw'
      go_enter Tryd.func48, Tryd.ntmps48
      go_wp2
      go_ret
      exact ⟨rfl, 0, rfl⟩
    · rw [HC.out, cmpI_gt (by omega)]
      clear HC hx hy hm hm' hw hw'
      go_enter Tryd.func48, Tryd.ntmps48
      go_wp2
      go_ret
      exact ⟨rfl, 0, rfl⟩
end Go.Proofs.YtagfekcocdjhlaaDoor
