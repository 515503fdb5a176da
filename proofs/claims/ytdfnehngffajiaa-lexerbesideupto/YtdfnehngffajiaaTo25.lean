/-
  To25: the tokens of a line, in numbers; the reference's Tokens.
-/
import Derived.Test.YtdfnehngffajiaaTk25
import Derived.Test.YtdfnehngffajiaaLn25
import Derived.Test.YtdfnehngffajiaaMk25
import Derived.Test.YtdfnehngffajiaaRu25
import Derived.Lib.Strings
namespace Go.Proofs.Ytdfnehngffajiaa
open Go.RowKit
set_option linter.unusedVariables false

theorem emp25 {M : ByteArray} (h : ¬ M = ⟨#[]⟩) : M.toList.isEmpty = false := by
  rw [Bool.eq_false_iff]
  intro q
  rw [List.isEmpty_iff, Lib.toList_data] at q
  obtain ⟨d⟩ := M
  simp at q
  exact h (by rw [q])
open Classical in
noncomputable def runK (s : ByteArray) (i : Nat) (b : Bool) : Nat := if h : ∃ k, RunE s i b k then Classical.choose h else 0
theorem runK_eq {s : ByteArray} {i k : Nat} {b : Bool} (h : RunE s i b k) : runK s i b = k := by
  have q : ∃ k, RunE s i b k := ⟨k, h⟩
  unfold runK
  rw [dif_pos q]
  exact runE_one (Classical.choose_spec q) h
open Classical in
noncomputable def colK (s : ByteArray) (i : Nat) : Nat × Int := if h : ∃ p : Nat × Int, ColE s i p.1 p.2 then Classical.choose h else (0, 0)
theorem colK_eq {s : ByteArray} {i k : Nat} {f : Int} (h : ColE s i k f) : colK s i = (k, f) := by
  have q : ∃ p : Nat × Int, ColE s i p.1 p.2 := ⟨(k, f), h⟩
  unfold colK
  rw [dif_pos q]
  have e := colE_one (Classical.choose_spec q) h
  exact Prod.ext e.1 e.2
/-- What is done at a place: go on with some tokens more, or stop. -/
inductive Sp25 where
  | go (i c : Nat) (t : List Tok)
  | stop (a e : Int)
noncomputable def sp25 (s : ByteArray) (g : ByteArray → Int) (i c : Nat) : Sp25 :=
  if ¬ i < s.size then .stop 0 0
  else if (chS s i).2 = 0 then .stop (c : Int) 12
  else if blkS (chS s i).1 = true then .go (i + (chS s i).2) (c + 1) []
  else if (chS s i).1 = 35 then (if (colK s i).2 = 0 then .stop 0 0 else .stop ((c : Int) + ((colK s i).1 : Nat)) 12)
  else if digS (chS s i).1 = true then (if g (s.extract i (ps s i (runK s i true))) = 0 then .go (ps s i (runK s i true)) (c + runK s i true) [⟨1, s.extract i (ps s i (runK s i true)), (c : Int)⟩] else .stop (c : Int) 7)
  else if letS (chS s i).1 = true then (if 32 < ps s i (runK s i false) - i then .stop (c : Int) 17 else .go (ps s i (runK s i false)) (c + runK s i false) [⟨2, s.extract i (ps s i (runK s i false)), (c : Int)⟩])
  else if mkS (chS s i).1 = ⟨#[]⟩ then .stop (c : Int) 13
  else .go (i + (chS s i).2) (c + 1) [⟨3, mkS (chS s i).1, (c : Int)⟩]
/-- The tokens from the place i, in the column c, on; the column that is told, the error. -/
inductive Tkn (s : ByteArray) (g : ByteArray → Int) : Nat → Nat → List Tok → Int → Int → Prop
  | stop {i c : Nat} {a e : Int} : sp25 s g i c = .stop a e → Tkn s g i c [] a e
  | go {i c i' c' : Nat} {t L : List Tok} {a e : Int} : sp25 s g i c = .go i' c' t → Tkn s g i' c' L a e → Tkn s g i c (if e = 0 then t ++ L else []) a e
theorem tkn_one {s : ByteArray} {g : ByteArray → Int} {i c : Nat} {L L' : List Tok} {a a' e e' : Int} (h : Tkn s g i c L a e) (h' : Tkn s g i c L' a' e') : L = L' ∧ a = a' ∧ e = e' := by
  induction h generalizing L' a' e' with
  | stop q =>
    cases h' with
    | stop q' => rw [q] at q'; cases q'; exact ⟨rfl, rfl, rfl⟩
    | go q' _ => rw [q] at q'; cases q'
  | go q h ih =>
    cases h' with
    | stop q' => rw [q] at q'; cases q'
    | go q' h2 =>
      rw [q] at q'
      cases q'
      obtain ⟨rfl, rfl, rfl⟩ := ih h2
      exact ⟨rfl, rfl, rfl⟩
def TkN (s : ByteArray) (g : ByteArray → Int) (i c : Nat) (L0 : List Tok) : Prop := ∀ L a e, Tkn s g i c L a e → Tkn s g 0 1 (if e = 0 then L0 ++ L else []) a e
theorem TkN.start (s : ByteArray) (g : ByteArray → Int) : TkN s g 0 1 [] := fun L a e h => by
  by_cases q : e = 0
  · rw [if_pos q, List.nil_append]; exact h
  · have : L = [] := by
      cases h with
      | stop _ => rfl
      | go _ _ => exact if_neg q
    rw [if_neg q, ← this]; exact h
theorem TkN.next {s : ByteArray} {g : ByteArray → Int} {i c i' c' : Nat} {L0 t : List Tok} (h : TkN s g i c L0) (q : sp25 s g i c = .go i' c' t) : TkN s g i' c' (L0 ++ t) := fun L a e hL => by
  have := h _ _ _ (Tkn.go q hL)
  by_cases z : e = 0
  · rw [if_pos z] at this ⊢
    rw [if_pos z, ← List.append_assoc] at this
    exact this
  · rw [if_neg z] at this ⊢
    exact this
theorem TkN.fin {s : ByteArray} {g : ByteArray → Int} {i c : Nat} {L0 : List Tok} (h : TkN s g i c L0) (q : sp25 s g i c = .stop 0 0) : Tkn s g 0 1 L0 0 0 := by
  have := h _ _ _ (Tkn.stop q)
  rw [if_pos rfl, List.append_nil] at this
  exact this
theorem TkN.bad {s : ByteArray} {g : ByteArray → Int} {i c : Nat} {L0 : List Tok} {a e : Int} (h : TkN s g i c L0) (q : sp25 s g i c = .stop a e) (he : e ≠ 0) : Tkn s g 0 1 [] a e := by
  have := h _ _ _ (Tkn.stop q)
  rw [if_neg he] at this
  exact this
/-- What Tokens answers. -/
def TokD (s : ByteArray) (g : ByteArray → Int) (w : World) (x : Ending) (w' : World) : Prop := ∃ v L a e, x = .returned (.tuple #[v, .int .i64 a, .int .i64 e]) ∧ Tkn s g 0 1 L a e ∧ Toks w.heap.size w' v L ∧ Below w.heap.size w w'
end Go.Proofs.Ytdfnehngffajiaa
