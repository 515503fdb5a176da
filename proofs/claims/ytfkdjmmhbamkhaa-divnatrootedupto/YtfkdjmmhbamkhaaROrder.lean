/-
  ROrder: the reference's order of digits.
-/
import Derived.Test.YtfkdjmmhbamkhaaRef
namespace Go.Proofs.Ytfkdjmmhbamkhaa
open Go.RowKit

set_option maxHeartbeats 1600000 in
theorem rorder_any {B : Nat} {w : World} {v u : Value} {xs ys : List Int} (h : SlI B w v xs) (h' : SlI B w u ys) (hx : DCanon xs) (hy : DCanon ys) :
    Calls Try.prog 45 #[v, u] w fun e w' => e = .returned (.int .i64 (cmpI (dval xs) (dval ys))) ∧ ∃ n, w' = w.drewN n := by
  obtain ⟨hw, a, cap, rfl, hlc, hcm, hm⟩ := h
  obtain ⟨hw', a', cap', rfl, hlc', hcm', hm'⟩ := h'
  by_cases hne : xs.length = ys.length
  · have HE : Hid ((∀ j (h1 : j < xs.length) (h2 : j < ys.length), xs[j] = ys[j]) → cmpI (dval xs) (dval ys) = 0) := fun he => by
      rw [List.ext_getElem hne he, cmpI_self]
    have HH : Hid (∀ j (h1 : j < xs.length) (h2 : j < ys.length), (∀ i (h1 : i < xs.length) (h2 : i < ys.length), j < i → xs[i] = ys[i]) → xs[j] ≠ ys[j] → cmpI (dval xs) (dval ys) = cmpI xs[j] ys[j]) := fun j h1 h2 he hq => by
      refine dcmp_at hx.1 hy.1 hne h1 ?_ hq
      refine List.ext_getElem (by simp; omega) (fun i h3 h4 => ?_)
      simp only [List.getElem_drop]
      simp only [List.length_drop] at h3 h4
      exact he _ _ _ (by omega)
    generalize cmpI (dval xs) (dval ys) = C at *
    have HNE := hid hne
    obtain ⟨n, hn⟩ : ∃ n, n = ys.length := ⟨_, rfl⟩
    rw [← hn] at hne hlc'
    rw [hne, ← hn]
    rw [hne] at hlc
    have HN := hid hn
    have hnn : ((n : Int) != (n : Int)) = false := by simp
    clear hne hw hw' hn
    go_enter Try.func45, Try.ntmps45
    go_wp2_with fail
    go_loopw [5] (fun i wr => ∃ k : Nat, k ≤ n ∧ i = .int .i64 ((k : Int) - 1) ∧ (∃ q, wr = w.drewN q) ∧ ∀ j (h1 : j < xs.length) (h2 : j < ys.length), k ≤ j → xs[j] = ys[j]) (fun i _ => (intOf i + 1).toNat)
    case atStart => exact ⟨n, Nat.le_refl _, rfl, ⟨0, rfl⟩, fun j h1 h2 h => by have := HN.out; omega⟩
    case round =>
      obtain ⟨k, hk, rfl, hq, he⟩ := hrel
      have hcw : ∀ a, wr.cell? a = w.cell? a := by obtain ⟨q, rfl⟩ := hq; intro a; rfl
      have HQ := hid hq
      have HR := hid he
      clear hq he
      by_cases hk0 : k = 0
      · subst hk0
        clear hcw
        go_wp2_with fail
        go_ret
        refine ⟨?_, HQ.out⟩
        rw [HE.out (fun j h1 h2 => HR.out j h1 h2 (by omega))]
        rfl
      · obtain ⟨j, rfl⟩ : ∃ j, k = j + 1 := ⟨k - 1, by omega⟩
        have hj2 : j < ys.length := by have := HN.out; omega
        have hj1 : j < xs.length := by have := HNE.out; omega
        rcases hm with e | ⟨b, off, rfl, hb, hc⟩
        · subst e; simp at hj1
        rcases hm' with e | ⟨b', off', rfl, hb', hc'⟩
        · subst e; simp at hj2
        have c1 : wr.cell? ⟨b, off + j, none⟩ = some (.int .i64 xs[j]) := by rw [hcw]; exact hc j hj1
        have c2 : wr.cell? ⟨b', off' + j, none⟩ = some (.int .i64 ys[j]) := by rw [hcw]; exact hc' j hj2
        clear hcw hc hc'
        have HXY := hid (HH.out j hj1 hj2 (fun i h1 h2 h3 => HR.out i h1 h2 (by omega)))
        have HX : Hid (∀ i (h1 : i < xs.length) (h2 : i < ys.length), xs[j] = ys[j] → j ≤ i → xs[i] = ys[i]) := fun i h1 h2 he hi => by
          by_cases e : i = j
          · subst e; exact he
          · exact HR.out i h1 h2 (by omega)
        generalize xs[j] = x at *
        generalize ys[j] = y at *
        clear hk0 HR
        have i0 : (0 : Int) ≤ (j : Int) := by omega
        have i1 : (j : Int) < (n : Int) := by omega
        rcases Int.lt_trichotomy x y with q | q | q
        · go_wp2_with fail
          go_quiet (fail)
          go_wp2
          go_ret
          refine ⟨?_, by obtain ⟨q, hq⟩ := HQ.out; exact ⟨q + nq, by rw [hq, World.drewN_drewN]⟩⟩
          rw [HXY.out (by omega), cmpI_lt q]
          rfl
        · have q1 : ¬ x < y := by omega
          have q2 : ¬ y < x := by omega
          have Q := hid q
          clear q
          go_wp2_with fail
          go_quiet (fail)
          go_wp2_with fail
          go_quiet (fail)
          go_wp2
          go_roundw
          case rel => exact ⟨j, by omega, rfl, drew_ex HQ.out _, fun i h1 h2 h3 => HX.out i h1 h2 Q.out h3⟩
          case measure => simp [intOf]
        · have q1 : ¬ x < y := by omega
          go_wp2_with fail
          go_quiet (fail)
          go_wp2_with fail
          go_quiet (fail)
          go_wp2
          go_ret
          refine ⟨?_, drew_ex (drew_ex HQ.out _) _⟩
          rw [HXY.out (by omega), cmpI_gt q]
          rfl
  · have hnn : ((xs.length : Int) != (ys.length : Int)) = true := by rw [bne_iff_ne]; omega
    have HC : Hid (cmpI (dval xs) (dval ys) = cmpI (xs.length : Int) (ys.length : Int)) := by
      unfold Hid; rw [dcmp_widths hx.1 hy.1 (by rw [hx.2, hy.2]; exact hne), hx.2, hy.2]
    generalize cmpI (dval xs) (dval ys) = C at *
    by_cases hlt : (xs.length : Int) < (ys.length : Int)
    · rw [HC.out, cmpI_lt hlt]
      clear HC hx hy hm hm' hw hw'
      go_enter Try.func45, Try.ntmps45
      go_wp2
      go_ret
      exact ⟨rfl, 0, rfl⟩
    · rw [HC.out, cmpI_gt (by omega)]
      clear HC hx hy hm hm' hw hw'
      go_enter Try.func45, Try.ntmps45
      go_wp2
      go_ret
      exact ⟨rfl, 0, rfl⟩
end Go.Proofs.Ytfkdjmmhbamkhaa
