/-
  Trim: the contract of trimmed; slices that a call made, with or without room behind them.
-/
import Derived.Test.YtgdlecghpbckpaaQTimes
import Derived.Test.YtgdlecghpbckpaaQMade
import Derived.Test.YtgdlecghpbckpaaQLen2
namespace Go.Proofs.Ytgdlecghpbckpaa
open Go.RowKit
set_option linter.unusedVariables false

theorem wid_of_len {xs : List Int} (hw : WF xs) : ∃ b : Nat, bitLen (vn xs) = b ∧ (b + 63) / 64 = wid xs ∧ b ≤ 64 * xs.length := by
  refine ⟨_, rfl, ?_⟩
  by_cases h0 : wid xs = 0
  · rw [wid_zero_vn hw h0, h0]
    exact ⟨rfl, by rw [show bitLen 0 = 0 from rfl]; omega⟩
  · obtain ⟨n, hn⟩ : ∃ n, wid xs = n + 1 := ⟨wid xs - 1, by omega⟩
    obtain ⟨hl, hne⟩ := wid_top hn
    have h1 := bitLen_words hw hn hl
    have h2 := bitLen_small (toNat_lt (hw.get hl))
    have h3 : 0 < bitLen xs[n].toNat := by
      unfold bitLen
      split
      · rename_i e
        have := (hw.get hl).1
        omega
      · omega
    rw [h1, hn]
    exact ⟨by omega, by omega⟩

/-- A slice that a call made itself: nil, or at the head of a row from block B on. -/
def Mine (B : Nat) (w : World) (v : Value) (zs : List Int) : Prop :=
  WF zs ∧ ((v = .slice none 0 0 ∧ zs = []) ∨ ∃ g r cap, B ≤ g ∧ zs.length ≤ 35184372088832 ∧ zs.length ≤ cap ∧ (cap = zs.length ∨ (cap = zs.length + r.length ∧ cap ≤ maxLen)) ∧ v = .slice (some ⟨g, 0, none⟩) zs.length cap ∧ Row w g (ws zs ++ r))
theorem Mine.form {B : Nat} {w : World} {v : Value} {zs : List Int} (h : Mine B w v zs) : ∃ a cap, v = .slice a zs.length cap := by
  obtain ⟨_, ⟨h1, h2⟩ | ⟨g, r, cap, _, _, _, _, h1, _⟩⟩ := h
  · subst h2; exact ⟨none, 0, h1⟩
  · exact ⟨_, _, h1⟩
theorem Mine.sl {B : Nat} {w : World} {v : Value} {zs : List Int} (h : Mine B w v zs) : Sl w.heap.size w v zs := by
  obtain ⟨hw, ⟨h1, h2⟩ | ⟨g, r, cap, h1, h2, h3, h4, h5, h6⟩⟩ := h
  · subst h1 h2; exact Sl.nilAt w
  · subst h5
    exact ⟨hw, _, cap, rfl, h3, h2, .inr ⟨g, 0, rfl, h6.lt, fun j hj => by rw [Nat.zero_add]; exact h6.word hj⟩⟩
theorem Mine.nil (B : Nat) (w : World) : Mine B w (.slice none 0 0) [] := ⟨WF.nil, .inl ⟨rfl, rfl⟩⟩
theorem Mine.mono {B B' : Nat} {w : World} {v : Value} {zs : List Int} (h : Mine B w v zs) (hB : B' ≤ B) : Mine B' w v zs := by
  obtain ⟨hw, h | ⟨g, r, cap, h1, h2⟩⟩ := h
  · exact ⟨hw, .inl h⟩
  · exact ⟨hw, .inr ⟨g, r, cap, by omega, h2⟩⟩
theorem Mine.below {B : Nat} {w w' : World} {v : Value} {zs : List Int} (h : Mine B w v zs) (hb : Below w.heap.size w w') : Mine B w' v zs := by
  obtain ⟨hw, h | ⟨g, r, cap, h1, h2, h3, h4, h5, h6⟩⟩ := h
  · exact ⟨hw, .inl h⟩
  · exact ⟨hw, .inr ⟨g, r, cap, h1, h2, h3, h4, h5, h6.below hb h6.lt⟩⟩

end Go.Proofs.Ytgdlecghpbckpaa
