/-
  Ps25: the characters of a text one behind the other, in numbers; what Columns answers.
-/
import Derived.Test.YtdfnehngffajiaaDoorLx25
namespace Go.Proofs.YtdfnehngffajiaaDoor
open Go.RowKit
set_option linter.unusedVariables false

theorem chS_in {s : ByteArray} {i : Nat} (hi : i < s.size) : i + (chS s i).2 ≤ s.size ∧ (chS s i).2 ≤ 4 := by
  by_cases h0 : (nxS (byS s i)).1 = 0
  · rw [chS_none (.inl h0) hi]; simp only; omega
  by_cases h1 : s.size < i + (nxS (byS s i)).1
  · rw [chS_none (.inr (.inl h1)) hi]; simp only; omega
  by_cases h2 : ∃ k, 1 ≤ k ∧ k < (nxS (byS s i)).1 ∧ ¬ conS s (i + k)
  · rw [chS_none (.inr (.inr h2)) hi]; simp only; omega
  have h2' : ∀ k, 1 ≤ k → k < (nxS (byS s i)).1 → conS s (i + k) := fun k a b => Classical.byContradiction fun q => h2 ⟨k, a, b, q⟩
  have hn4 : (nxS (byS s i)).1 ≤ 4 := by
    rcases nxS_cases (byS s i) with ⟨q, e⟩ | ⟨q, q', e⟩ | ⟨q, q', e⟩ | ⟨q, q', e⟩ | ⟨q, e⟩ <;> rw [e] <;> simp
  obtain ⟨a, b⟩ := chS_some h0 (by omega) h2'
  by_cases h3 : offS (acS s i (nxS (byS s i)).1) (nxS (byS s i)).2.2
  · rw [a h3]; simp only; omega
  · rw [(b h3).2]; omega
/-- Where the k-th character behind a begins. -/
def ps (s : ByteArray) (a : Nat) : Nat → Nat
  | 0 => a
  | k + 1 => ps s a k + (chS s (ps s a k)).2
/-- k characters lie behind a. -/
def gdS (s : ByteArray) (a k : Nat) : Prop := ∀ j, j < k → ps s a j < s.size ∧ (chS s (ps s a j)).2 ≠ 0
theorem gdS.zero (s : ByteArray) (a : Nat) : gdS s a 0 := fun j h => absurd h (Nat.not_lt_zero j)
theorem gdS.succ {s : ByteArray} {a k : Nat} (h : gdS s a k) (h1 : ps s a k < s.size) (h2 : (chS s (ps s a k)).2 ≠ 0) : gdS s a (k + 1) := fun j hj => by
  by_cases e : j = k
  · subst e; exact ⟨h1, h2⟩
  · exact h j (by omega)
theorem gdS.low {s : ByteArray} {a k : Nat} (h : gdS s a k) (j : Nat) (hj : j ≤ k) : gdS s a j := fun i hi => h i (by omega)
theorem gdS.le {s : ByteArray} {a : Nat} (ha : a ≤ s.size) : ∀ {k : Nat}, gdS s a k → ps s a k ≤ s.size ∧ a + k ≤ ps s a k
  | 0, _ => ⟨ha, Nat.le_refl _⟩
  | k + 1, h => by
    obtain ⟨h1, h2⟩ := h k (Nat.lt_succ_self k)
    have h3 := chS_in h1
    have h4 := gdS.le ha (h.low k (Nat.le_succ k))
    have e : ps s a (k + 1) = ps s a k + (chS s (ps s a k)).2 := rfl
    omega
/-- Where the characters end: at the text's end, or at a bad byte. -/
def ColE (s : ByteArray) (a k : Nat) (e : Int) : Prop := gdS s a k ∧ ((e = 0 ∧ ps s a k = s.size) ∨ (e = 12 ∧ ps s a k < s.size ∧ (chS s (ps s a k)).2 = 0))
theorem colE_one {s : ByteArray} {a k l : Nat} {e f : Int} (h : ColE s a k e) (g : ColE s a l f) : k = l ∧ e = f := by
  obtain ⟨h1, h2⟩ := h
  obtain ⟨g1, g2⟩ := g
  by_cases c : k < l
  · exfalso
    have := g1 k c
    rcases h2 with ⟨_, h⟩ | ⟨_, _, h⟩
    · omega
    · exact this.2 h
  by_cases c' : l < k
  · exfalso
    have := h1 l c'
    rcases g2 with ⟨_, h⟩ | ⟨_, _, h⟩
    · omega
    · exact this.2 h
  obtain rfl : k = l := by omega
  refine ⟨rfl, ?_⟩
  rcases h2 with ⟨a1, a2⟩ | ⟨a1, a2, a3⟩ <;> rcases g2 with ⟨b1, b2⟩ | ⟨b1, b2, b3⟩ <;> omega
/-- What Columns answers. -/
def ColD (s : ByteArray) (n e : Int) : Prop := ∃ k, ColE s 0 k e ∧ n = (if e = 0 then (k : Int) else 0)
theorem colD_one {s : ByteArray} {n m e f : Int} (h : ColD s n e) (g : ColD s m f) : n = m ∧ e = f := by
  obtain ⟨k, h1, rfl⟩ := h
  obtain ⟨l, g1, rfl⟩ := g
  obtain ⟨rfl, rfl⟩ := colE_one h1 g1
  exact ⟨rfl, rfl⟩
theorem colE_ex (s : ByteArray) {a : Nat} (ha : a ≤ s.size) : ∃ k e, ColE s a k e := by
  have key : ∀ d k, gdS s a k → s.size - ps s a k ≤ d → ∃ k e, ColE s a k e := by
    intro d
    induction d with
    | zero =>
      intro k h hd
      have := h.le ha
      exact ⟨k, 0, h, .inl ⟨rfl, by omega⟩⟩
    | succ d ih =>
      intro k h hd
      by_cases h1 : ps s a k < s.size
      · by_cases h2 : (chS s (ps s a k)).2 = 0
        · exact ⟨k, 12, h, .inr ⟨rfl, h1, h2⟩⟩
        · have e : ps s a (k + 1) = ps s a k + (chS s (ps s a k)).2 := rfl
          exact ih (k + 1) (h.succ h1 h2) (by omega)
      · have := h.le ha
        exact ⟨k, 0, h, .inl ⟨rfl, by omega⟩⟩
  exact key _ 0 (gdS.zero s a) (Nat.le_refl _)
end Go.Proofs.YtdfnehngffajiaaDoor
