/-
  Bp25: bounds of columns; the tokens of two lines beside each other, as the law asks.
-/
import Derived.Test.YtdfnehngffajiaaDoorBh25
import Derived.Test.YtdfnehngffajiaaDoorTn25
import Derived.Test.YtdfnehngffajiaaDoorLw25
namespace Go.Proofs.YtdfnehngffajiaaDoor
open Go.RowKit
set_option linter.unusedVariables false

theorem sp25_stop0 {s : ByteArray} {g : ByteArray → Int} {i c : Nat} {a e : Int} (h : sp25 s g i c = .stop a e) (hi : i ≤ s.size) : (e = 0 → a = 0) ∧ 0 ≤ a ∧ a ≤ (c : Int) + ((s.size - i : Nat) : Int) := by
  unfold sp25 at h
  by_cases h0 : ¬ i < s.size
  · rw [if_pos h0] at h; cases h; omega
  rw [if_neg h0] at h
  have hi : i < s.size := by omega
  by_cases h1 : (chS s i).2 = 0
  · rw [if_pos h1] at h; cases h; omega
  rw [if_neg h1] at h
  by_cases h2 : blkS (chS s i).1 = true
  · rw [if_pos h2] at h; cases h
  rw [if_neg h2] at h
  by_cases h3 : (chS s i).1 = 35
  · rw [if_pos h3] at h
    by_cases h4 : (colK s i).2 = 0
    · rw [if_pos h4] at h; cases h; omega
    · rw [if_neg h4] at h
      cases h
      obtain ⟨k, f, hk⟩ : ∃ k f, ColE s i k f := by
        unfold colK at h4
        by_cases q : ∃ p : Nat × Int, ColE s i p.1 p.2
        · obtain ⟨p, hp⟩ := q; exact ⟨p.1, p.2, hp⟩
        · rw [dif_neg q] at h4; exact absurd rfl h4
      rw [colK_eq hk]
      have := hk.1.le (Nat.le_of_lt hi)
      dsimp only
      omega
  rw [if_neg h3] at h
  by_cases h4 : digS (chS s i).1 = true
  · rw [if_pos h4] at h
    by_cases h5 : g (s.extract i (ps s i (runK s i true))) = 0
    · rw [if_pos h5] at h; cases h
    · rw [if_neg h5] at h; cases h; omega
  rw [if_neg h4] at h
  by_cases h5 : letS (chS s i).1 = true
  · rw [if_pos h5] at h
    by_cases h6 : 32 < ps s i (runK s i false) - i
    · rw [if_pos h6] at h; cases h; omega
    · rw [if_neg h6] at h; cases h
  rw [if_neg h5] at h
  by_cases h6 : mkS (chS s i).1 = ⟨#[]⟩
  · rw [if_pos h6] at h; cases h; omega
  · rw [if_neg h6] at h; cases h
theorem sp25_go3 {s : ByteArray} {g : ByteArray → Int} {i c i' c' : Nat} {t : List Tok} (h : sp25 s g i c = .go i' c' t) : ∀ x ∈ t, x.c = (c : Int) := by
  unfold sp25 at h
  by_cases h0 : ¬ i < s.size
  · rw [if_pos h0] at h; cases h
  rw [if_neg h0] at h
  by_cases h1 : (chS s i).2 = 0
  · rw [if_pos h1] at h; cases h
  rw [if_neg h1] at h
  by_cases h2 : blkS (chS s i).1 = true
  · rw [if_pos h2] at h; cases h; intro x hx; cases hx
  rw [if_neg h2] at h
  by_cases h3 : (chS s i).1 = 35
  · rw [if_pos h3] at h
    by_cases h4 : (colK s i).2 = 0
    · rw [if_pos h4] at h; cases h
    · rw [if_neg h4] at h; cases h
  rw [if_neg h3] at h
  by_cases h4 : digS (chS s i).1 = true
  · rw [if_pos h4] at h
    by_cases h5 : g (s.extract i (ps s i (runK s i true))) = 0
    · rw [if_pos h5] at h; cases h; intro x hx; rw [List.mem_singleton] at hx; rw [hx]
    · rw [if_neg h5] at h; cases h
  rw [if_neg h4] at h
  by_cases h5 : letS (chS s i).1 = true
  · rw [if_pos h5] at h
    by_cases h6 : 32 < ps s i (runK s i false) - i
    · rw [if_pos h6] at h; cases h
    · rw [if_neg h6] at h; cases h; intro x hx; rw [List.mem_singleton] at hx; rw [hx]
  rw [if_neg h5] at h
  by_cases h6 : mkS (chS s i).1 = ⟨#[]⟩
  · rw [if_pos h6] at h; cases h
  · rw [if_neg h6] at h; cases h; intro x hx; rw [List.mem_singleton] at hx; rw [hx]
theorem tkn_bound {s : ByteArray} {g : ByteArray → Int} {i c : Nat} {L : List Tok} {a e : Int} (h : Tkn s g i c L a e) (hi : i ≤ s.size) :
    ((e = 0 → a = 0) ∧ 0 ≤ a ∧ a ≤ (c : Int) + ((s.size - i : Nat) : Int)) ∧ ∀ t ∈ L, 0 ≤ t.c ∧ t.c ≤ (c : Int) + ((s.size - i : Nat) : Int) := by
  induction h with
  | stop q => exact ⟨sp25_stop0 q hi, fun t ht => by cases ht⟩
  | @go i c i' c' t L a e q _ ih =>
    obtain ⟨h1, h2, _⟩ := sp25_go q
    obtain ⟨k, e1, e2, e3⟩ := sp25_go2 q
    obtain ⟨i1, i2⟩ := ih h2
    have hk := e3.le hi
    refine ⟨⟨i1.1, i1.2.1, by have := i1.2.2; omega⟩, fun x hx => ?_⟩
    split at hx
    · rcases List.mem_append.1 hx with hx | hx
      · rw [sp25_go3 q x hx]; omega
      · have := i2 x hx; omega
    · cases hx
/-- The tokens of a line with n bytes: how many, and where. -/
theorem tkn_all {s : ByteArray} {g : ByteArray → Int} {L : List Tok} {a e : Int} (h : Tkn s g 0 1 L a e) (hs : s.size ≤ 4194300) : L.length ≤ 4194304 ∧ (e = 0 → a = 0) ∧ 0 ≤ a ∧ a ≤ 4194304 ∧ ∀ j (q : j < L.length), 0 ≤ L[j].c ∧ L[j].c ≤ 4194304 := by
  have h1 := tkn_le h (Nat.zero_le _)
  obtain ⟨⟨h2, h3, h4⟩, h5⟩ := tkn_bound h (Nat.zero_le _)
  refine ⟨by omega, h2, h3, by omega, fun j q => ?_⟩
  have := h5 _ (List.getElem_mem q)
  omega
end Go.Proofs.YtdfnehngffajiaaDoor
