/-
  Bj25: tokens of two texts with a blank between, joined.
-/
import Derived.Test.YtdfnehngffajiabDoorQBs25ToBt25
namespace Go.Proofs.YtdfnehngffajiabDoor
open Go.RowKit
set_option linter.unusedVariables false

theorem ps_add (s : ByteArray) (a m : Nat) : ∀ k, ps s a (m + k) = ps s (ps s a m) k
  | 0 => rfl
  | k + 1 => by
    have ih := ps_add s a m k
    show ps s a (m + k) + (chS s (ps s a (m + k))).2 = ps s (ps s a m) k + (chS s (ps s (ps s a m) k)).2
    rw [ih]
theorem gdS_add {s : ByteArray} {a m k : Nat} (h : gdS s a m) (g : gdS s (ps s a m) k) : gdS s a (m + k) := fun j hj => by
  by_cases q : j < m
  · exact h j q
  · obtain ⟨i, rfl⟩ : ∃ i, j = m + i := ⟨j - m, by omega⟩
    rw [ps_add]
    exact g i (by omega)
theorem gdS_one {s : ByteArray} {i : Nat} (hi : i < s.size) (hc : (chS s i).2 ≠ 0) : gdS s i 1 := fun j hj => by
  obtain rfl : j = 0 := by omega
  exact ⟨hi, hc⟩
theorem runK_gd {s : ByteArray} {i : Nat} (n : Bool) (hi : i ≤ s.size) : gdS s i (runK s i n) := by
  obtain ⟨k, hk⟩ := runE_ex s n hi
  rw [runK_eq hk]
  exact hk.1
/-- A step goes over whole characters, a column each. -/
theorem sp25_go2 {s : ByteArray} {g : ByteArray → Int} {i c i' c' : Nat} {t : List Tok} (h : sp25 s g i c = .go i' c' t) : ∃ k, i' = ps s i k ∧ c' = c + k ∧ gdS s i k := by
  unfold sp25 at h
  by_cases h0 : ¬ i < s.size
  · rw [if_pos h0] at h; cases h
  rw [if_neg h0] at h
  have hi : i < s.size := by omega
  by_cases h1 : (chS s i).2 = 0
  · rw [if_pos h1] at h; cases h
  rw [if_neg h1] at h
  by_cases h2 : blkS (chS s i).1 = true
  · rw [if_pos h2] at h; cases h; exact ⟨1, rfl, rfl, gdS_one hi h1⟩
  rw [if_neg h2] at h
  by_cases h3 : (chS s i).1 = 35
  · rw [if_pos h3] at h
    split at h <;> cases h
  rw [if_neg h3] at h
  by_cases h4 : digS (chS s i).1 = true
  · rw [if_pos h4] at h
    split at h <;> cases h
    exact ⟨_, rfl, rfl, runK_gd true (Nat.le_of_lt hi)⟩
  rw [if_neg h4] at h
  by_cases h5 : letS (chS s i).1 = true
  · rw [if_pos h5] at h
    split at h <;> cases h
    exact ⟨_, rfl, rfl, runK_gd false (Nat.le_of_lt hi)⟩
  rw [if_neg h5] at h
  by_cases h6 : mkS (chS s i).1 = ⟨#[]⟩
  · rw [if_pos h6] at h; cases h
  · rw [if_neg h6] at h; cases h; exact ⟨1, rfl, rfl, gdS_one hi h1⟩
/-- Where no comment begins, a stop ahead of the end is a fault. -/
theorem sp25_stop {s : ByteArray} {g : ByteArray → Int} {i c : Nat} {a e : Int} (hi : i < s.size) (h3 : (chS s i).1 ≠ 35) (h : sp25 s g i c = .stop a e) : e ≠ 0 := by
  unfold sp25 at h
  rw [if_neg (show ¬ ¬ i < s.size by omega)] at h
  by_cases h1 : (chS s i).2 = 0
  · rw [if_pos h1] at h; cases h; omega
  rw [if_neg h1] at h
  by_cases h2 : blkS (chS s i).1 = true
  · rw [if_pos h2] at h; cases h
  rw [if_neg h2, if_neg h3] at h
  by_cases h4 : digS (chS s i).1 = true
  · rw [if_pos h4] at h
    split at h <;> cases h
    omega
  rw [if_neg h4] at h
  by_cases h5 : letS (chS s i).1 = true
  · rw [if_pos h5] at h
    split at h <;> cases h
    omega
  rw [if_neg h5] at h
  by_cases h6 : mkS (chS s i).1 = ⟨#[]⟩
  · rw [if_pos h6] at h; cases h; omega
  · rw [if_neg h6] at h; cases h
theorem no35 {s : ByteArray} (h : ∀ j, j < s.size → byS s j ≠ 35) {i : Nat} (hi : i < s.size) : (chS s i).1 ≠ 35 := by
  have hb := h i hi
  rcases chS_form hi with q | ⟨q1, q2, q3, q4, q5, q6⟩
  · rw [q]; simp
  · intro e
    rw [e] at q4
    unfold offS at q6
    rcases nxS_cases (byS s i) with ⟨z, w⟩ | ⟨z, z', w⟩ | ⟨z, z', w⟩ | ⟨z, z', w⟩ | ⟨z, w⟩
    · rw [w] at q4
      have a1 : acS s i 1 = (nxS (byS s i)).2.1 := rfl
      rw [w] at a1
      dsimp only at q4 a1
      omega
    · rw [w] at q4 q6; dsimp only at q4 q6; omega
    · rw [w] at q4 q6; dsimp only at q4 q6; omega
    · rw [w] at q4 q6; dsimp only at q4 q6; omega
    · rw [w] at q1; exact absurd rfl q1
theorem blk_gap (tab : Bool) : blkS (if tab then 9 else 32) = true := by cases tab <;> decide
theorem tkn_join {a b : ByteArray} {tab : Bool} {g : ByteArray → Int} (hno : ∀ j, j < a.size → byS a j ≠ 35) {i c : Nat} {La : List Tok} {ca ea : Int} (h : Tkn a g i c La ca ea) :
    ∀ m, i = ps a 0 m → c = m + 1 → gdS a 0 m →
    (ea ≠ 0 → Tkn (a ++ (gapB tab ++ b)) g i c [] ca ea) ∧
    (ea = 0 → ∀ Lb cb eb, Tkn b g 0 1 Lb cb eb → ∀ k, ColE a 0 k 0 → Tkn (a ++ (gapB tab ++ b)) g i c (if eb = 0 then La ++ Lb.map (shT (k + 1)) else []) (if eb = 0 then cb else cb + ((k + 1 : Nat) : Int)) eb) := by
  induction h with
  | @stop i c ca ea q =>
    intro m hi hc hm
    have hle := (hm.le (Nat.zero_le _)).1
    by_cases z : i < a.size
    · have e0 := sp25_stop z (no35 hno z) q
      refine ⟨fun _ => Tkn.stop (by rw [sp25_gap z (no35 hno z)]; exact q), fun e => absurd e e0⟩
    · have hia : i = a.size := by omega
      have q0 : sp25 a g i c = .stop 0 0 := by unfold sp25; exact if_pos z
      rw [q] at q0
      cases q0
      refine ⟨fun e => absurd rfl e, fun _ Lb cb eb hb k hk => ?_⟩
      obtain ⟨rfl, _⟩ := colE_one (show ColE a 0 m 0 from ⟨hm, .inl ⟨rfl, by omega⟩⟩) hk
      have hgs := gap_size tab
      have ht := tkn_at (p := a ++ gapB tab) (m + 1) hb (Nat.zero_le _)
      rw [ByteArray.append_assoc, app_size, hgs] at ht
      have sg : sp25 (a ++ (gapB tab ++ b)) g i c = .go (a.size + 1) (c + 1) [] := by
        subst hia
        unfold sp25
        rw [if_neg (show ¬ ¬ a.size < (a ++ (gapB tab ++ b)).size by rw [app_size, app_size, hgs]; omega), chS_gapAt, if_neg (by simp), if_pos (blk_gap tab)]
      rw [show a.size + 1 + 0 = a.size + 1 from rfl, show 1 + (m + 1) = c + 1 by omega] at ht
      have := Tkn.go sg ht
      simpa using this
  | @go i c i' c' t L ca ea q h ih =>
    intro m hi hc hm
    obtain ⟨k', e1, e2, e3⟩ := sp25_go2 q
    obtain ⟨g1, g2, _⟩ := sp25_go q
    have z : i < a.size := by omega
    have q2 : sp25 (a ++ (gapB tab ++ b)) g i c = .go i' c' t := by rw [sp25_gap z (no35 hno z)]; exact q
    obtain ⟨i1, i2⟩ := ih (m + k') (by rw [ps_add, ← hi]; exact e1) (by omega) (gdS_add hm (by rw [← hi]; exact e3))
    refine ⟨fun e => ?_, fun e Lb cb eb hb k hk => ?_⟩
    · have := Tkn.go q2 (i1 e)
      rw [if_neg e] at this
      exact this
    · have := Tkn.go q2 (i2 e Lb cb eb hb k hk)
      rw [if_pos e]
      by_cases y : eb = 0
      · rw [if_pos y, if_pos y] at this ⊢
        rw [if_pos y, ← List.append_assoc] at this
        exact this
      · rw [if_neg y, if_neg y] at this ⊢
        exact this
end Go.Proofs.YtdfnehngffajiabDoor
