/-
  Lw25: the law LexerColumns, given what awake and the program's Columns answer.
-/
import Derived.Test.YtdfnehngffajiaaDoorCp25
import Derived.Deep.LoopGhost
import Derived.Laws.Concat
import Derived.Below
namespace Go.Proofs.YtdfnehngffajiaaDoor
open Go.RowKit
set_option linter.unusedVariables false

/-- A law's answer. -/
def Well25 (w : World) (e : Ending) (w' : World) : Prop := e = .returned (.bool true) ∧ Below w.heap.size w w'
/-- What the program's Columns answers. -/
def ColP (s : ByteArray) (w : World) (e : Ending) (w' : World) : Prop := ∃ n f, e = .returned (.tuple #[.int .i64 n, .int .i64 f]) ∧ ColD s n f ∧ Below w.heap.size w w'
theorem cnB_le (s : ByteArray) : ∀ i, cnB s i ≤ i
  | 0 => Nat.le_refl _
  | i + 1 => by
    have := cnB_le s i
    unfold cnB
    split <;> omega
theorem colE_le {s : ByteArray} {k : Nat} {f : Int} (h : ColE s 0 k f) : k ≤ s.size := by
  have := h.1.le (Nat.zero_le _)
  omega
theorem colE_err {s : ByteArray} {i k : Nat} {f : Int} (h : ColE s i k f) : f = 0 ∨ f = 12 := by
  rcases h.2 with ⟨q, _⟩ | ⟨q, _⟩
  · exact .inl q
  · exact .inr q
theorem chS_zet : chS ⟨#[197, 188]⟩ 0 = (380, 2) := by decide +kernel
theorem colD_zet : ColD ⟨#[197, 188]⟩ 1 0 := by
  refine ⟨1, ⟨fun j hj => ?_, .inl ⟨rfl, ?_⟩⟩, rfl⟩
  · obtain rfl : j = 0 := by omega
    show 0 < 2 ∧ (chS ⟨#[197, 188]⟩ 0).2 ≠ 0
    rw [chS_zet]
    exact ⟨by omega, by simp⟩
  · show 0 + (chS ⟨#[197, 188]⟩ 0).2 = 2
    rw [chS_zet]
    rfl
theorem cols_law {a b : ByteArray} {m n k e f g : Int} (h1 : ColD a m e) (h2 : ColD b n f) (h3 : ColD (a ++ b) k g) :
    (e = 12 ∧ m = 0) ∨ (e = 0 ∧ f = 12 ∧ n = 0 ∧ g = 12 ∧ k = 0) ∨ (e = 0 ∧ f = 0 ∧ g = 0 ∧ ∃ x y : Nat, m = (x : Int) ∧ n = (y : Int) ∧ k = ((x + y : Nat) : Int) ∧ x = cnB a a.size ∧ x ≤ a.size ∧ y ≤ b.size) := by
  obtain ⟨x, hx, rfl⟩ := h1
  obtain ⟨y, hy, rfl⟩ := h2
  obtain ⟨z, hz, rfl⟩ := h3
  rcases colE_err hx with rfl | rfl
  · obtain ⟨e1, e2⟩ := colE_one (colE_app hx hy) hz
    subst e1 e2
    rcases colE_err hy with rfl | rfl
    · exact .inr (.inr ⟨rfl, rfl, rfl, x, y, rfl, rfl, rfl, (cnB_all hx).symm, colE_le hx, colE_le hy⟩)
    · exact .inr (.inl ⟨rfl, rfl, rfl, rfl, rfl⟩)
  · exact .inl ⟨rfl, rfl⟩
end Go.Proofs.YtdfnehngffajiaaDoor
