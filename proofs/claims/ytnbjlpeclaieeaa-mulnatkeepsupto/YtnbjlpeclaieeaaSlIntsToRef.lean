/-
  SlIntsToRef: SlInts, Ref, joined.
-/
import Derived.Test.YtnbjlpeclaieeaaBase
import Derived.Test.YtnbjlpeclaieeaaDWords
import Derived.Test.YtnbjlpeclaieeaaSubToNow
import Derived.Test.YtnbjlpeclaieeaaLen2ToTrim

/- SlInts -/
namespace Go.Proofs.Ytnbjlpeclaieeaa
open Go.RowKit

/-- A slice of numbers. -/
def SlI (B : Nat) (w : World) (v : Value) (ps : List Int) : Prop :=
  (∀ p ∈ ps, -9223372036854775808 ≤ p ∧ p ≤ 9223372036854775807) ∧ ∃ a cap, v = .slice a ps.length cap ∧ ps.length ≤ cap ∧ cap ≤ 35184372088832 ∧
    (ps = [] ∨ ∃ b off, a = some ⟨b, off, none⟩ ∧ b < B ∧ ∀ j (h : j < ps.length), w.cell? ⟨b, off + j, none⟩ = some (.int .i64 ps[j]))
theorem SlI.now {w w' : World} {v : Value} {xs : List Int} (h : SlI w.heap.size w v xs) (hb : Below w.heap.size w w') : SlI w'.heap.size w' v xs := by
  obtain ⟨h1, a, cap, h2, h3, h4, h5⟩ := h
  refine ⟨h1, a, cap, h2, h3, h4, ?_⟩
  rcases h5 with h5 | ⟨b, off, h6, h7, h8⟩
  · exact .inl h5
  · exact .inr ⟨b, off, h6, Nat.lt_of_lt_of_le h7 hb.size, fun j hj => (hb.cell (p := ⟨b, off + j, none⟩) h7).trans (h8 j hj)⟩
end Go.Proofs.Ytnbjlpeclaieeaa

/- Ref -/
namespace Go.Proofs.Ytnbjlpeclaieeaa
open Go.RowKit

theorem SlI.below {B : Nat} {w w' : World} {v : Value} {xs : List Int} (h : SlI B w v xs) (hb : Below B w w') : SlI B w' v xs := by
  obtain ⟨h1, a, cap, h2, h3, h4, h5⟩ := h
  refine ⟨h1, a, cap, h2, h3, h4, ?_⟩
  rcases h5 with h5 | ⟨b, off, h6, h7, h8⟩
  · exact .inl h5
  · exact .inr ⟨b, off, h6, h7, fun j hj => (hb.cell (p := ⟨b, off + j, none⟩) h7).trans (h8 j hj)⟩

set_option maxHeartbeats 400000 in
theorem trim_any {B : Nat} {w : World} {v : Value} {xs : List Int} (h : SlI B w v xs) :
    Calls Try.prog 63 #[v] w fun e w' => ∃ r, e = .returned r ∧ SlI B w r (dlst xs) ∧ w' = w := by
  have hs := h
  obtain ⟨hw, a, cap, rfl, hlc, hcm, hm⟩ := h
  have HW : Hid (∀ n : Nat, n ≤ xs.length → (∀ j (h : j < xs.length), n ≤ j → xs[j] = 0) → (0 < n → ∀ h' : n - 1 < xs.length, xs[n - 1] ≠ 0) → dwid xs = n) := fun n h1 h2 h3 => dwid_is h1 h2 h3
  have HF : Hid (∀ n, dwid xs = n → SlI B w (.slice a n cap) (dlst xs)) := fun n hn => by
    subst hn
    have l := dwid_le xs
    refine ⟨fun p hp => hw p (List.mem_of_mem_take hp), a, cap, by rw [dlength_lst], by rw [dlength_lst]; omega, hcm, ?_⟩
    rcases hm with rfl | ⟨b, off, h1, h2, h3⟩
    · exact .inl rfl
    · refine .inr ⟨b, off, h1, h2, fun j hj => ?_⟩
      rw [dlength_lst] at hj
      rw [h3 j (by omega), dlst_get hj]
  have HM := hid hm
  clear hs
  go_enter Try.func63, Try.ntmps63
  go_wp2
  go_loop [3] (fun i => ∃ n : Nat, n ≤ xs.length ∧ i = .int .i64 n ∧ ∀ j (h : j < xs.length), n ≤ j → xs[j] = 0) (fun i => (intOf i).toNat)
  case atStart => exact ⟨xs.length, Nat.le_refl _, rfl, fun j h h' => by omega⟩
  case round =>
    obtain ⟨n, hn, rfl, hz⟩ := hrel
    have HZ := hid hz
    clear hz hm
    by_cases h0 : n = 0
    · subst h0
      go_wp2
      go_ret
      exact ⟨_, rfl, HF.out 0 (HW.out 0 (by omega) HZ.out (by omega)), rfl⟩
    · obtain ⟨k, rfl⟩ : ∃ k, n = k + 1 := ⟨n - 1, by omega⟩
      rcases HM.out with rfl | ⟨b, off, rfl, hb, hc⟩
      · simp at hn
      · have hk : k < xs.length := by omega
        have hck := hc k hk
        obtain ⟨x, hx⟩ : ∃ x, x = xs[k] := ⟨_, rfl⟩
        rw [← hx] at hck
        have HX : Hid (x = xs[k]) := hx
        clear hx hc h0
        by_cases hx0 : x = 0
        · have ht : (x == 0) = true := by simp [hx0]
          go_wp2
          go_round
          case rel =>
            refine ⟨k, by omega, rfl, fun j h hj => ?_⟩
            by_cases e : j = k
            · subst e; rw [← HX.out]; exact hx0
            · exact HZ.out j h (by omega)
          case measure => simp [intOf]
        · have ht : (x == 0) = false := by simp [hx0]
          go_wp2
          go_ret
          exact ⟨_, rfl, HF.out (k + 1) (HW.out (k + 1) hn HZ.out (fun _ h' => by have := HX.out; simp at h' ⊢; rw [← this]; exact hx0)), rfl⟩

theorem at_any {B : Nat} {w : World} {v : Value} {xs : List Int} (h : SlI B w v xs) (k : Nat) :
    Calls Try.prog 52 #[v, .int .i64 (k : Int)] w fun e w' => e = .returned (.int .i64 (xs.getD k 0)) ∧ w' = w := by
  obtain ⟨hw, a, cap, rfl, hlc, hcm, hm⟩ := h
  by_cases hk : k < xs.length
  · rcases hm with rfl | ⟨b, off, rfl, hb, hc⟩
    · simp at hk
    have c1 := hc k hk
    have e : xs.getD k 0 = xs[k] := by simp [hk]
    rw [e]
    generalize xs[k] = x at *
    clear hc e
    go_enter Try.func52, Try.ntmps52
    go_wp2
    go_ret
    exact ⟨rfl, rfl⟩
  · have e : xs.getD k 0 = 0 := by simp [show xs.length ≤ k by omega]
    rw [e]
    clear hm e
    go_enter Try.func52, Try.ntmps52
    go_wp2
    go_ret
    exact ⟨rfl, rfl⟩

theorem drew_ex {w wr : World} (h : ∃ q, wr = w.drewN q) (n : Nat) : ∃ q, wr.drewN n = w.drewN q := by obtain ⟨q, rfl⟩ := h; exact ⟨q + n, by rw [World.drewN_drewN]⟩

end Go.Proofs.Ytnbjlpeclaieeaa
