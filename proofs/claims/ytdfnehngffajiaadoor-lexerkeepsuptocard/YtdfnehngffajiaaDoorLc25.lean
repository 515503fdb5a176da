/-
  Lc25: the reference's Char.
-/
import Derived.Test.YtdfnehngffajiaaDoorLx25
import Derived.Deep.LoopGhost
namespace Go.Proofs.YtdfnehngffajiaaDoor
open Go.RowKit
set_option linter.unusedVariables false

def ChD (s : ByteArray) (i : Nat) (w : World) (e : Ending) (w' : World) : Prop := e = .returned (.tuple #[.int .i64 ((chS s i).1 : Int), .int .i64 ((chS s i).2 : Int)]) ∧ w' = w
set_option maxHeartbeats 1600000 in
set_option maxRecDepth 100000 in
theorem char25 (w : World) {s : ByteArray} {i : Nat} (hi : i < s.size) (hs : s.size ≤ 1152921504606846976) : Calls Tryd.prog 17 #[.string s, .int .i64 (i : Int)] w (ChD s i w) := by
  have HI := hid hi
  have HX := hid (next25 w (byS s i) (byS_lt s i))
  have H0 : Hid ((nxS (byS s i)).1 = 0 ∨ s.size < i + (nxS (byS s i)).1 ∨ (∃ k, 1 ≤ k ∧ k < (nxS (byS s i)).1 ∧ ¬ conS s (i + k)) → chS s i = (0, 0)) := fun h => chS_none h hi
  have H1 := hid (@chS_some s i)
  have HB := hid (@acS_bd s i)
  have hn4 : Hid ((nxS (byS s i)).1 ≤ 4) := by
    unfold Hid
    rcases nxS_cases (byS s i) with ⟨q, e⟩ | ⟨q, q', e⟩ | ⟨q, q', e⟩ | ⟨q, q', e⟩ | ⟨q, e⟩ <;> rw [e] <;> simp
  have HL : Hid (acS s i 1 = (nxS (byS s i)).2.1) := rfl
  have HAT : Hid (∀ (k : Nat) (h : k < s.size), ((s[k]'h).toNat : Int) = (byS s k : Int)) := fun k h => byS_at h
  have hat := HAT.out i hi
  have hi0 : (i : Int) < (s.size : Int) := by omega
  obtain ⟨S, hS⟩ : ∃ S, s.size = S := ⟨_, rfl⟩
  generalize (nxS (byS s i)).1 = n at *
  generalize (nxS (byS s i)).2.1 = v0 at *
  generalize (nxS (byS s i)).2.2 = m at *
  unfold ChD
  obtain ⟨V, N, hVN⟩ : ∃ V N, chS s i = (V, N) := ⟨_, _, rfl⟩
  rw [hVN] at H0 H1 ⊢
  simp only at H1 ⊢
  by_cases hn0 : n = 0
  · obtain ⟨rfl, rfl⟩ := Prod.mk.inj (H0.out (.inl hn0))
    subst hn0
    clear H0 H1 HB HAT hVN HI
    go_enter Tryd.func17, Tryd.ntmps17
    go_wp2_with fail
    refine HX.out.mono ?_
    rintro e w1 ⟨rfl, hw⟩
    subst hw
    clear HX
    go_wp2
    go_ret2
    exact ⟨rfl, rfl⟩
  have g0 : ((n : Int) == 0) = false := by rw [beq_eq_false_iff_ne]; omega
  have hn4' := hn4.out
  by_cases hlong : s.size < i + n
  · obtain ⟨rfl, rfl⟩ := Prod.mk.inj (H0.out (.inr (.inl hlong)))
    have g1 : IntKind.i64.wrap ((i : Int) + (n : Int)) = (i : Int) + n := by rw [wrap_is] <;> omega
    have g2 : (s.size : Int) < (i : Int) + n := by omega
    clear H0 H1 HB HAT hVN HI hlong
    go_enter Tryd.func17, Tryd.ntmps17
    go_wp2_with fail
    refine HX.out.mono ?_
    rintro e w1 ⟨rfl, hw⟩
    subst hw
    clear HX
    go_wp2
    go_ret2
    exact ⟨rfl, rfl⟩
  have g1 : IntKind.i64.wrap ((i : Int) + (n : Int)) = (i : Int) + n := by rw [wrap_is] <;> omega
  have g2 : ¬ (s.size : Int) < (i : Int) + n := by omega
  have HN0 := hid hn0
  have HLO := hid (show i + n ≤ s.size by omega)
  clear hlong hn0
  go_enter Tryd.func17, Tryd.ntmps17
  go_wp2_with fail
  refine HX.out.mono ?_
  rintro e w1 ⟨rfl, hw⟩
  subst hw
  clear HX
  go_wp2_with fail
  go_loopg [7, 9, 10] (n - 1) (fun gk s7 s9 s10 wr => ∃ k : Nat, s7 = .int .i64 (acS s i k) ∧ s9 = .int .i64 (k : Int) ∧ 1 ≤ k ∧ k ≤ n ∧ gk = n - k ∧ (∀ j, 1 ≤ j → j < k → conS s (i + j)) ∧ wr = w1)
  case atStart => exact ⟨1, by rw [HL.out], rfl, Nat.le_refl _, by have := HN0.out; omega, rfl, fun j h1 h2 => by omega, rfl⟩
  case round =>
    obtain ⟨k, rfl, rfl, hk1, hkn, hgk, hcon, rfl⟩ := hrel
    have HCO := hid hcon
    have HGK := hid hgk
    clear hcon hgk
    have hbd : 0 ≤ acS s i k ∧ acS s i k < 33554432 := by
      obtain ⟨j, rfl⟩ : ∃ j, k = j + 1 := ⟨k - 1, by omega⟩
      have q := HB.out HN0.out j (fun t h1 h2 => HCO.out t h1 (by omega))
      have : 64 ^ j ≤ 64 ^ 3 := Nat.pow_le_pow_right (by omega) (show j ≤ 3 by omega)
      have e : ((64 ^ j : Nat) : Int) = (64 : Int) ^ j := by simp
      rw [show (64 : Nat) ^ 3 = 262144 from rfl] at this
      omega
    by_cases hlt : k < n
    · have hlt' : (k : Int) < (n : Int) := by omega
      have hik : i + k < s.size := by have := HLO.out; omega
      have g3 : IntKind.i64.wrap ((i : Int) + (k : Int)) = ((i + k : Nat) : Int) := by rw [wrap_is] <;> omega
      have g4 : ((i + k : Nat) : Int) < (s.size : Int) := by omega
      have hby := HAT.out (i + k) hik
      have hbl := byS_lt s (i + k)
      have EN : Hid (acS s i (k + 1) = 64 * acS s i k + (byS s (i + k) : Int) - 128) := by
        obtain ⟨j, rfl⟩ : ∃ j, k = j + 1 := ⟨k - 1, by omega⟩
        rfl
      have HNC : Hid (¬ conS s (i + k) → (V, N) = (0, 0)) := fun h => H0.out (.inr (.inr ⟨k, hk1, hlt, h⟩))
      have HCN : Hid (conS s (i + k) ↔ 128 ≤ byS s (i + k) ∧ byS s (i + k) < 192) := Iff.rfl
      obtain ⟨c, hc⟩ : ∃ c, byS s (i + k) = c := ⟨_, rfl⟩
      obtain ⟨v, hv⟩ : ∃ v, acS s i k = v := ⟨_, rfl⟩
      rw [hc] at hby hbl EN HCN
      rw [hv] at hbd EN ⊢
      by_cases c1 : c < 128
      · obtain ⟨rfl, rfl⟩ := Prod.mk.inj (HNC.out (fun q => by have := HCN.out.1 q; omega))
        have g5 : (c : Int) < 128 := by omega
        clear H0 H1 HB HAT HNC HCN EN hc hv
        go_wp2
        go_ret2
        exact ⟨rfl, rfl⟩
      by_cases c2 : 192 ≤ c
      · obtain ⟨rfl, rfl⟩ := Prod.mk.inj (HNC.out (fun q => by have := HCN.out.1 q; omega))
        have g5 : ¬ (c : Int) < 128 := by omega
        have g6 : (192 : Int) ≤ (c : Int) := by omega
        clear H0 H1 HB HAT HNC HCN EN hc hv
        go_wp2
        go_ret2
        exact ⟨rfl, rfl⟩
      have g5 : ¬ (c : Int) < 128 := by omega
      have g6 : ¬ (192 : Int) ≤ (c : Int) := by omega
      have g7 : IntKind.i64.wrap (64 * v) = 64 * v := by rw [wrap_is] <;> omega
      have g8 : IntKind.i64.wrap (64 * v + (c : Int)) = 64 * v + (c : Int) := by rw [wrap_is] <;> omega
      have g9 : IntKind.i64.wrap (64 * v + (c : Int) - 128) = 64 * v + (c : Int) - 128 := by rw [wrap_is] <;> omega
      have g10 : IntKind.i64.wrap ((k : Int) + 1) = (k : Int) + 1 := by rw [wrap_is] <;> omega
      have HC1 : Hid (∀ j, 1 ≤ j → j < k + 1 → conS s (i + j)) := fun j h1 h2 => by
        by_cases q : j = k
        · subst q; exact HCN.out.2 ⟨by omega, by omega⟩
        · exact HCO.out j h1 (by omega)
      clear H0 H1 HB HAT HNC HCN hc hv HCO
      go_wp2_with fail
      go_roundg (n - (k + 1))
      case rel => exact ⟨k + 1, by rw [EN.out], by go_num, by omega, by omega, rfl, HC1.out, rfl⟩
      case measure => have := HGK.out; omega
    · obtain rfl : k = n := by omega
      have hlt' : ¬ (k : Int) < (k : Int) := by omega
      obtain ⟨F1, F2⟩ := H1.out HN0.out HLO.out HCO.out
      have HF1 := hid F1
      have HF2 := hid F2
      unfold offS at HF1 HF2
      obtain ⟨v, hv⟩ : ∃ v, acS s i k = v := ⟨_, rfl⟩
      rw [hv] at hbd HF1 HF2 ⊢
      clear F1 F2 H0 H1 HB HAT hv HCO
      by_cases o1 : v < m
      · obtain ⟨rfl, rfl⟩ := Prod.mk.inj (HF1.out (.inl o1))
        go_wp2
        go_ret2
        exact ⟨rfl, rfl⟩
      by_cases o2 : 1114111 < v
      · obtain ⟨rfl, rfl⟩ := Prod.mk.inj (HF1.out (.inr (.inl o2)))
        go_wp2
        go_ret2
        exact ⟨rfl, rfl⟩
      by_cases o3 : 55296 ≤ v
      · by_cases o4 : v ≤ 57343
        · obtain ⟨rfl, rfl⟩ := Prod.mk.inj (HF1.out (.inr (.inr ⟨o3, o4⟩)))
          go_wp2
          go_ret2
          exact ⟨rfl, rfl⟩
        · obtain ⟨e1, rfl⟩ := HF2.out (by omega)
          subst e1
          clear HF1 HF2
          go_wp2
          go_ret2
          exact ⟨rfl, rfl⟩
      · obtain ⟨e1, rfl⟩ := HF2.out (by omega)
        subst e1
        clear HF1 HF2
        go_wp2
        go_ret2
        exact ⟨rfl, rfl⟩
end Go.Proofs.YtdfnehngffajiaaDoor
