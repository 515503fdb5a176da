/-
  Least2: least, by hand.
-/
import Derived.Test.YtagfekcocdjhlaaCalls
import Derived.Test.YtagfekcocdjhlaaBulk
namespace Go.Proofs.Ytagfekcocdjhlaa
open Go.RowKit
set_option linter.unusedVariables false

set_option maxHeartbeats 1600000 in
theorem leastHand_any {w : World} {v : Value} {xs : List Int} (h : Sl w.heap.size w v xs) (hf : Formed v) (hl : xs.length ≤ 17592186044416) :
    Calls Try.prog 20 #[v] w fun e w' => ∃ r, e = .returned r ∧ Sl w'.heap.size w' r (lst xs) ∧ Below w.heap.size w w' := by
  have HS := hid h
  obtain ⟨hw, a, cap, rfl, hlc, hcm, hm⟩ := h
  have HF : Hid (∀ n c, n ≤ xs.length → (a = none → c = 0) → Formed (.slice a n c)) := fun n c hn hc => by
    rcases hf with e | ⟨ad, n', c', e⟩
    · simp only [Value.slice.injEq] at e
      obtain ⟨rfl, e2, rfl⟩ := e
      exact .inl (by rw [hc rfl, show n = 0 by omega])
    · simp only [Value.slice.injEq] at e
      exact .inr ⟨ad, n, c, by rw [e.1]⟩
  have HC : Hid (a = none → cap = 0) := fun e => by
    rcases hf with e' | ⟨ad, n', c', e'⟩
    · simp only [Value.slice.injEq] at e'; exact e'.2.2
    · simp only [Value.slice.injEq] at e'; rw [e] at e'; cases e'.1
  have HW : Hid (∀ n : Nat, n ≤ xs.length → (∀ j (h : j < xs.length), n ≤ j → xs[j] = 0) → (0 < n → ∀ h' : n - 1 < xs.length, xs[n - 1] ≠ 0) → lst xs = xs.take n) := fun n h1 h2 h3 => by unfold lst; rw [wid_is h1 h2 h3]
  have HSN : Hid (∀ n, n ≤ xs.length → Sl w.heap.size w (.slice a n cap) (xs.take n)) := fun n hn => by
    have e : (xs.take n).length = n := by simp; omega
    exact ⟨hw.take n, a, cap, by rw [e], by omega, by omega, Sl.source hm⟩
  generalize lst xs = W at *
  clear hf
  go_enter Try.func20, Try.ntmps20
  go_wp2
  go_loop [3] (fun i => ∃ n : Nat, n ≤ xs.length ∧ i = .int .i64 n ∧ ∀ j (h : j < xs.length), n ≤ j → xs[j] = 0) (fun i => (intOf i).toNat)
  case atStart => exact ⟨xs.length, Nat.le_refl _, rfl, fun j h h' => by omega⟩
  case round =>
    obtain ⟨n, hn, rfl, hz⟩ := hrel
    have HZ : Hid (∀ j (h : j < xs.length), n ≤ j → xs[j] = 0) := hz
    clear hz
    by_cases h0 : n = 0
    · subst h0
      have HE := hid (HW.out 0 (by omega) HZ.out (by omega))
      go_wp2_with (at_builtin; refine wpList_append_fresh _ rfl (.tmp 18) (.tmp 21) rfl w.heap.size _ (xs.take 0) rfl (heap_alloc_new w _) rfl w.heap.size ((HSN.out 0 (by omega)).alloc (Nat.le_refl _) _) (HF.out _ _ (by omega) HC.out) (by simp) ?_)
      intro v' w' hM hB
      have hB0 := hid (((Below.refl w.heap.size w).alloc (Nat.le_refl _) (.cells #[] 35)).trans hB)
      clear hB
      go_wp2
      go_ret
      exact ⟨_, rfl, by rw [HE.out]; exact hM.out.sl, hB0.out⟩
    · obtain ⟨k, rfl⟩ : ∃ k, n = k + 1 := ⟨n - 1, by omega⟩
      rcases hm with rfl | ⟨b, off, rfl, hb, hc⟩
      · simp at hn
      · have hk : k < xs.length := by omega
        have hck := hc k hk
        obtain ⟨x, hx⟩ : ∃ x, x = xs[k] := ⟨_, rfl⟩
        rw [← hx] at hck
        have HX : Hid (x = xs[k]) := hx
        clear hx hc h0
        by_cases hx0 : x = 0
        · have ht : (x == 0) = true := by simp [hx0]
          go_wp2
          go_round
          case rel =>
            refine ⟨k, by omega, rfl, fun j h hj => ?_⟩
            by_cases e : j = k
            · subst e; rw [← HX.out]; exact hx0
            · exact HZ.out j h (by omega)
          case measure => simp [intOf]
        · have ht : (x == 0) = false := by simp [hx0]
          have HE := hid (HW.out (k + 1) hn HZ.out (fun _ h' => by have := HX.out; simp at h' ⊢; rw [← this]; exact hx0))
          go_wp2_with (at_builtin; refine wpList_append_fresh _ rfl (.tmp 18) (.tmp 21) rfl w.heap.size _ (xs.take (k + 1)) rfl (heap_alloc_new w _) rfl w.heap.size ((HSN.out (k + 1) hn).alloc (Nat.le_refl _) _) (HF.out _ _ hn HC.out) (by simp; omega) ?_)
          intro v' w' hM hB
          have hB0 := hid (((Below.refl w.heap.size w).alloc (Nat.le_refl _) (.cells #[] 35)).trans hB)
          clear hB
          go_wp2
          go_ret
          exact ⟨_, rfl, by rw [HE.out]; exact hM.out.sl, hB0.out⟩
end Go.Proofs.Ytagfekcocdjhlaa
