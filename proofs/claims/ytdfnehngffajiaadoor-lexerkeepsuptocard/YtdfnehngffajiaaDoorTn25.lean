/-
  Tn25: how many tokens a line has at most; the reference's calls, together.
-/
import Derived.Test.YtdfnehngffajiaaDoorAl25
namespace Go.Proofs.YtdfnehngffajiaaDoor
open Go.RowKit
set_option linter.unusedVariables false

theorem runE_ex (s : ByteArray) {a : Nat} (b : Bool) (ha : a ≤ s.size) : ∃ k, RunE s a b k := by
  have key : ∀ d k, gdS s a k → (∀ j, j < k → okC b (chS s (ps s a j)).1 = true) → s.size - ps s a k ≤ d → ∃ k, RunE s a b k := by
    intro d
    induction d with
    | zero =>
      intro k h1 h2 hd
      exact ⟨k, h1, h2, fun q => by omega⟩
    | succ d ih =>
      intro k h1 h2 hd
      by_cases q : ps s a k < s.size ∧ (chS s (ps s a k)).2 ≠ 0 ∧ okC b (chS s (ps s a k)).1 = true
      · have e : ps s a (k + 1) = ps s a k + (chS s (ps s a k)).2 := rfl
        refine ih (k + 1) (h1.succ q.1 q.2.1) (fun j hj => ?_) (by omega)
        by_cases z : j = k
        · subst z; exact q.2.2
        · exact h2 j (by omega)
      · exact ⟨k, h1, h2, q⟩
  exact key _ 0 (gdS.zero s a) (fun j h => absurd h (Nat.not_lt_zero j)) (Nat.le_refl _)
theorem runK_run {s : ByteArray} {i : Nat} {b : Bool} (hi : i < s.size) (hc : (chS s i).2 ≠ 0) (ho : okC b (chS s i).1 = true) : i < ps s i (runK s i b) ∧ ps s i (runK s i b) ≤ s.size := by
  obtain ⟨k, hk⟩ := runE_ex s b (Nat.le_of_lt hi)
  rw [runK_eq hk]
  have h1 := hk.1.le (Nat.le_of_lt hi)
  have h2 : k ≠ 0 := fun q => by
    subst q
    exact hk.2.2 ⟨hi, hc, ho⟩
  omega
theorem sp25_go {s : ByteArray} {g : ByteArray → Int} {i c i' c' : Nat} {t : List Tok} (h : sp25 s g i c = .go i' c' t) : i < i' ∧ i' ≤ s.size ∧ t.length ≤ 1 := by
  unfold sp25 at h
  by_cases h0 : ¬ i < s.size
  · rw [if_pos h0] at h; cases h
  rw [if_neg h0] at h
  have hi : i < s.size := by omega
  have hin := chS_in hi
  by_cases h1 : (chS s i).2 = 0
  · rw [if_pos h1] at h; cases h
  rw [if_neg h1] at h
  by_cases h2 : blkS (chS s i).1 = true
  · rw [if_pos h2] at h; cases h; exact ⟨by omega, hin.1, by simp⟩
  rw [if_neg h2] at h
  by_cases h3 : (chS s i).1 = 35
  · rw [if_pos h3] at h
    split at h <;> cases h
  rw [if_neg h3] at h
  by_cases h4 : digS (chS s i).1 = true
  · rw [if_pos h4] at h
    have := runK_run (b := true) hi h1 (by unfold okC; rw [h4]; rfl)
    split at h <;> cases h
    exact ⟨this.1, this.2, by simp⟩
  rw [if_neg h4] at h
  by_cases h5 : letS (chS s i).1 = true
  · rw [if_pos h5] at h
    have := runK_run (b := false) hi h1 (by unfold okC; rw [h5]; simp)
    split at h <;> cases h
    exact ⟨this.1, this.2, by simp⟩
  rw [if_neg h5] at h
  by_cases h6 : mkS (chS s i).1 = ⟨#[]⟩
  · rw [if_pos h6] at h; cases h
  · rw [if_neg h6] at h; cases h; exact ⟨by omega, hin.1, by simp⟩
theorem tkn_le {s : ByteArray} {g : ByteArray → Int} {i c : Nat} {L : List Tok} {a e : Int} (h : Tkn s g i c L a e) (hi : i ≤ s.size) : L.length + i ≤ s.size := by
  induction h with
  | stop _ => simpa using hi
  | go q _ ih =>
    obtain ⟨h1, h2, h3⟩ := sp25_go q
    have := ih h2
    split
    · rw [List.length_append]; omega
    · simp only [List.length_nil]; omega
theorem both25 {s : ByteArray} {g : ByteArray → Int} (hs : s.size ≤ 1048576) (hg : GrC s g)
    (PL : ∀ w : World, MaxL w → Calls Tryd.prog 10 #[.string s] w (LinP s w)) (PT : ∀ w : World, MaxL w → Calls Tryd.prog 11 #[.string s] w (TokD s g w)) (PC : ∀ w : World, Calls Tryd.prog 29 #[.string s] w (ColP s w)) : Both25 s g where
  pl := PL
  rl := fun w => rlines25 w (by omega)
  pt := PT
  rt := fun w => rtokens25 w (by omega) hg
  pc := PC
  rc := fun w => (rcolumns25 w (by omega)).mono fun e w' ⟨n, f, h1, h2, h3⟩ => ⟨n, f, h1, h2, by rw [h3]; exact Below.refl _ _⟩
  tn := fun L a e h => by have := tkn_le h (Nat.zero_le _); omega
end Go.Proofs.YtdfnehngffajiaaDoor
