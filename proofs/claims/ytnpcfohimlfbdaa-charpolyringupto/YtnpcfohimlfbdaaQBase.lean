/-
  Base: what a slice of words is in memory; the contracts of the calls that only read: width, order, Same.
-/
import Derived.Test.YtnpcfohimlfbdaaRows
import Derived.Test.YtnpcfohimlfbdaaQWords
import Derived.WalkKit
import Derived.WalkSpells
import Derived.WalkLawsBesides
import Derived.Deep.QuietTactic
import Derived.BigQuiet
namespace Go.Proofs.Ytnpcfohimlfbdaa
open Go.RowKit

theorem hid {p : Prop} (h : p) : Hid p := h

/-- In the world w the slice value v holds the words xs; its memory lies below block B. -/
def Sl (B : Nat) (w : World) (v : Value) (xs : List Int) : Prop :=
  WF xs ∧ ∃ a cap, v = .slice a xs.length cap ∧ xs.length ≤ cap ∧ xs.length ≤ 35184372088832 ∧
    (xs = [] ∨ ∃ b off, a = some ⟨b, off, none⟩ ∧ b < B ∧ ∀ j (h : j < xs.length), w.cell? ⟨b, off + j, none⟩ = some (.int .u64 xs[j]))

theorem Sl.nilAt (w : World) : Sl w.heap.size w (.slice none 0 0) [] := ⟨WF.nil, none, 0, rfl, Nat.le_refl _, Nat.zero_le _, .inl rfl⟩
theorem Sl.mono {B B' : Nat} {w : World} {v : Value} {xs : List Int} (h : Sl B w v xs) (hB : B ≤ B') : Sl B' w v xs := by
  obtain ⟨h1, a, cap, h2, h3, h4, h5⟩ := h
  refine ⟨h1, a, cap, h2, h3, h4, ?_⟩
  rcases h5 with h5 | ⟨b, off, h6, h7, h8⟩
  · exact .inl h5
  · exact .inr ⟨b, off, h6, by omega, h8⟩
theorem Sl.below {B B' : Nat} {w w' : World} {v : Value} {xs : List Int} (h : Sl B w v xs) (hb : Below B' w w') (hB : B ≤ B') : Sl B w' v xs := by
  obtain ⟨h1, a, cap, h2, h3, h4, h5⟩ := h
  refine ⟨h1, a, cap, h2, h3, h4, ?_⟩
  rcases h5 with h5 | ⟨b, off, h6, h7, h8⟩
  · exact .inl h5
  · exact .inr ⟨b, off, h6, h7, fun j hj => (hb.cell (p := ⟨b, off + j, none⟩) (by show b < B'; omega)).trans (h8 j hj)⟩

theorem wrap_is {x : Int} (h0 : -9223372036854775808 ≤ x) (h1 : x ≤ 9223372036854775807) : IntKind.i64.wrap x = x := by rw [IntKind.wrap_i64]; omega
set_option maxHeartbeats 400000 in
theorem width_any {B : Nat} {w : World} {v : Value} {xs : List Int} (h : Sl B w v xs) :
    Calls Try.prog 48 #[v] w fun e w' => e = .returned (.int .i64 (wid xs)) ∧ w' = w := by
  obtain ⟨hw, a, cap, rfl, hlc, hcm, hm⟩ := h
  have HW : Hid (∀ n : Nat, n ≤ xs.length → (∀ j (h : j < xs.length), n ≤ j → xs[j] = 0) → (0 < n → ∀ h' : n - 1 < xs.length, xs[n - 1] ≠ 0) → wid xs = n) := fun n h1 h2 h3 => wid_is h1 h2 h3
  generalize wid xs = W at *
  go_enter Try.func48, Try.ntmps48
  go_wp2
  go_loop [3] (fun i => ∃ n : Nat, n ≤ xs.length ∧ i = .int .i64 n ∧ ∀ j (h : j < xs.length), n ≤ j → xs[j] = 0) (fun i => (intOf i).toNat)
  case atStart => exact ⟨xs.length, Nat.le_refl _, rfl, fun j h h' => by omega⟩
  case round =>
    obtain ⟨n, hn, rfl, hz⟩ := hrel
    have HZ : Hid (∀ j (h : j < xs.length), n ≤ j → xs[j] = 0) := hz
    clear hz
    by_cases h0 : n = 0
    · subst h0
      go_wp2
      go_ret
      exact ⟨by rw [HW.out 0 (by omega) HZ.out (by omega)]; rfl, rfl⟩
    · obtain ⟨k, rfl⟩ : ∃ k, n = k + 1 := ⟨n - 1, by omega⟩
      rcases hm with rfl | ⟨b, off, rfl, hb, hc⟩
      · simp at hn
      · have hk : k < xs.length := by omega
        have hck := hc k hk
        obtain ⟨x, hx⟩ : ∃ x, x = xs[k] := ⟨_, rfl⟩
        rw [← hx] at hck
        have HX : Hid (x = xs[k]) := hx
        clear hx hc h0
        by_cases hx0 : x = 0
        · have ht : (x == 0) = true := by simp [hx0]
          go_wp2
          go_round
          case rel =>
            refine ⟨k, by omega, rfl, fun j h hj => ?_⟩
            by_cases e : j = k
            · subst e; rw [← HX.out]; exact hx0
            · exact HZ.out j h (by omega)
          case measure => simp [intOf]
        · have ht : (x == 0) = false := by simp [hx0]
          go_wp2
          go_ret
          refine ⟨?_, rfl⟩
          rw [HW.out (k + 1) hn HZ.out (fun _ h' => by have := HX.out; simp at h' ⊢; rw [← this]; exact hx0)]
          rfl

theorem order_any (x y : Int) (w : World) :
    Calls Try.prog 60 #[.int .u64 x, .int .u64 y] w fun e w' => e = .returned (.int .i64 (cmpI x y)) ∧ w' = w := by
  rcases Int.lt_trichotomy x y with q | q | q
  · rw [cmpI_lt q]
    go_enter Try.func60, Try.ntmps60
    go_wp2
    go_ret
    exact ⟨rfl, rfl⟩
  · subst q
    rw [cmpI_self]
    go_enter Try.func60, Try.ntmps60
    go_wp2
    go_ret
    exact ⟨rfl, rfl⟩
  · rw [cmpI_gt q]
    have q' : ¬ x < y := by omega
    go_enter Try.func60, Try.ntmps60
    go_wp2
    go_ret
    exact ⟨rfl, rfl⟩

/-- Are two lists one? -/
def same (xs ys : List Int) : Bool := decide (xs = ys)
theorem same_self (xs : List Int) : same xs xs = true := by simp [same]

set_option maxHeartbeats 800000 in
theorem same_any {B : Nat} {w : World} {v u : Value} {xs ys : List Int} (h : Sl B w v xs) (h' : Sl B w u ys) :
    Calls Try.prog 10 #[v, u] w fun e w' => e = .returned (.bool (same xs ys)) ∧ ∃ n, w' = w.drewN n := by
  obtain ⟨hw, a, cap, rfl, hlc, hcm, hm⟩ := h
  obtain ⟨hw', a', cap', rfl, hlc', hcm', hm'⟩ := h'
  by_cases hl : xs.length = ys.length
  · have HS1 : Hid ((∀ j (h : j < xs.length), xs[j] = ys[j]'(by omega)) → same xs ys = true) := fun h => by
      unfold same; exact decide_eq_true (List.ext_getElem hl (fun j h1 h2 => h j h1))
    have HS2 : Hid (∀ j (h : j < xs.length), xs[j] ≠ ys[j]'(by omega) → same xs ys = false) := fun j h hne => by
      unfold same; exact decide_eq_false (fun e => hne (by subst e; rfl))
    generalize same xs ys = S at *
    have HL : Hid (xs.length = ys.length) := hl
    obtain ⟨n, hn⟩ : ∃ n, n = ys.length := ⟨_, rfl⟩
    rw [← hn] at hl hlc' HL
    rw [hl, ← hn]
    rw [hl] at hlc
    have hne : ((n : Int) != (n : Int)) = false := by simp
    have HN : Hid (n = ys.length) := hn
    clear hn hl
    go_enter Try.func10, Try.ntmps10
    go_wp2
    go_loopw [5] (fun i wr => ∃ k q : Nat, k ≤ n ∧ i = .int .i64 k ∧ wr = w.drewN q ∧ ∀ j (h : j < xs.length), j < k → xs[j] = ys[j]'(by have := HL.out; have := HN.out; omega)) (fun i _ => n - (intOf i).toNat)
    case atStart => exact ⟨0, 0, Nat.zero_le _, rfl, rfl, fun j h h' => by omega⟩
    case round =>
      obtain ⟨k, q, hk, rfl, rfl, he⟩ := hrel
      have HE : Hid (∀ j (h : j < xs.length), j < k → xs[j] = ys[j]'(by have := HL.out; have := HN.out; omega)) := he
      clear he
      by_cases hlt : k < n
      · have hk1 : k < xs.length := by have := HL.out; omega
        have hk2 : k < ys.length := by have := HN.out; omega
        rcases hm with e | ⟨b, off, rfl, hb, hc⟩
        · subst e; simp at hk1
        rcases hm' with e | ⟨b', off', rfl, hb', hc'⟩
        · subst e; simp at hk2
        have c1 : ∀ q, (w.drewN q).cell? ⟨b, off + k, none⟩ = some (.int .u64 xs[k]) := fun q => by simpa using hc k hk1
        have c2 : ∀ q, (w.drewN q).cell? ⟨b', off' + k, none⟩ = some (.int .u64 ys[k]) := fun q => by simpa using hc' k hk2
        obtain ⟨x, hx⟩ : ∃ x, x = xs[k] := ⟨_, rfl⟩
        obtain ⟨y, hy⟩ : ∃ y, y = ys[k] := ⟨_, rfl⟩
        rw [← hx] at c1
        rw [← hy] at c2
        have HX : Hid (x = xs[k]) := hx
        have HY : Hid (y = ys[k]) := hy
        clear hx hy hc hc'
        by_cases hxy : x = y
        · have ht : (x != y) = false := by simp [hxy]
          go_wp2
          go_quiet (fail)
          go_wp2
          go_roundw
          case rel =>
            refine ⟨k + 1, _, by omega, by go_num, rfl, fun j h hj => ?_⟩
            by_cases e : j = k
            · subst e; rw [← HX.out, ← HY.out]; exact hxy
            · exact HE.out j h (by omega)
          case measure => simp [intOf]; omega
        · have ht : (x != y) = true := by simp [hxy]
          go_wp2
          go_quiet (fail)
          go_wp2
          go_ret
          refine ⟨?_, q + nq, by simp⟩
          rw [HS2.out k hk1 (by rw [← HX.out, ← HY.out]; exact hxy)]
          rfl
      · go_wp2
        go_ret
        refine ⟨?_, q, rfl⟩
        rw [HS1.out (fun j h => HE.out j h (by have := HL.out; omega))]
        rfl
  · have HS : Hid (same xs ys = false) := by unfold same; exact decide_eq_false (fun e => hl (by rw [e]))
    have hne : ((xs.length : Int) != (ys.length : Int)) = true := by simp; omega
    rw [HS.out]
    go_enter Try.func10, Try.ntmps10
    go_wp2
    go_ret
    exact ⟨rfl, 0, rfl⟩

theorem Sl.drewN {B : Nat} {w : World} {v : Value} {xs : List Int} (h : Sl B w v xs) (n : Nat) : Sl B (w.drewN n) v xs := by
  obtain ⟨h1, a, cap, h2, h3, h4, h5⟩ := h
  refine ⟨h1, a, cap, h2, h3, h4, ?_⟩
  rcases h5 with h5 | ⟨b, off, h6, h7, h8⟩
  · exact .inl h5
  · exact .inr ⟨b, off, h6, h7, fun j hj => by simpa using h8 j hj⟩
end Go.Proofs.Ytnpcfohimlfbdaa
