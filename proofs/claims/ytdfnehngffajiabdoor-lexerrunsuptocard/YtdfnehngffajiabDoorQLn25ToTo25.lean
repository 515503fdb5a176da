/-
  QLn25ToTo25: Ln25, Mk25, Ps25, Lc25, Co25, Ck25, Ru25, To25, joined.
-/
import Derived.Test.YtdfnehngffajiabDoorQBaseToSt25
import Derived.Test.YtdfnehngffajiabDoorQLx25
import Derived.Deep.LoopGhost
import Derived.Test.YtdfnehngffajiabDoorQTk25ToTx25
import Derived.Lib.Strings

/- Ln25 -/
namespace Go.Proofs.YtdfnehngffajiabDoor
open Go.RowKit
set_option linter.unusedVariables false

/-- Where the line that begins at f and whose end is found at i ends. -/
def lnT (s : ByteArray) (f i : Nat) : Nat := if f < i ∧ byS s (i - 1) = 13 then i - 1 else i
def lnC (s : ByteArray) (f i : Nat) : ByteArray := s.extract f (lnT s f i)
/-- The lines that end before i, and where the next begins. -/
def lnS (s : ByteArray) : Nat → List ByteArray × Nat
  | 0 => ([], 0)
  | i + 1 => if byS s i = 10 then ((lnS s i).1 ++ [lnC s (lnS s i).2 i], i + 1) else lnS s i
def linesS (s : ByteArray) : List ByteArray := if (lnS s s.size).2 = s.size then (lnS s s.size).1 else (lnS s s.size).1 ++ [lnC s (lnS s s.size).2 s.size]
theorem lnS_le (s : ByteArray) : ∀ i, (lnS s i).2 ≤ i ∧ (lnS s i).1.length ≤ i
  | 0 => ⟨Nat.le_refl _, Nat.le_refl _⟩
  | i + 1 => by
    have := lnS_le s i
    unfold lnS
    split
    · simp only [List.length_append, List.length_singleton]; omega
    · omega
theorem lnT_le (s : ByteArray) {f i : Nat} (h : f ≤ i) : f ≤ lnT s f i ∧ lnT s f i ≤ i := by unfold lnT; split <;> omega
theorem alo25 (w : World) (o1 : Obj) : Below w.heap.size w (w.alloc o1) ∧ (w.alloc o1).heap.size = w.heap.size + 1 := ⟨(Below.refl _ _).alloc (Nat.le_refl _) _, by simp⟩
end Go.Proofs.YtdfnehngffajiabDoor

/- Mk25 -/
namespace Go.Proofs.YtdfnehngffajiabDoor
open Go.RowKit
set_option linter.unusedVariables false

/-- The text of a mark. -/
def mkS (v : Nat) : ByteArray := if v = 8722 then ⟨#[45]⟩ else if v = 215 then ⟨#[42]⟩ else if v ∈ [43, 45, 42, 94, 39, 40, 41, 91, 93, 123, 125, 44, 59, 58, 61] then ⟨#[UInt8.ofNat v]⟩ else ⟨#[]⟩
end Go.Proofs.YtdfnehngffajiabDoor

/- Ps25 -/
namespace Go.Proofs.YtdfnehngffajiabDoor
open Go.RowKit
set_option linter.unusedVariables false

theorem chS_in {s : ByteArray} {i : Nat} (hi : i < s.size) : i + (chS s i).2 ≤ s.size ∧ (chS s i).2 ≤ 4 := by
  by_cases h0 : (nxS (byS s i)).1 = 0
  · rw [chS_none (.inl h0) hi]; simp only; omega
  by_cases h1 : s.size < i + (nxS (byS s i)).1
  · rw [chS_none (.inr (.inl h1)) hi]; simp only; omega
  by_cases h2 : ∃ k, 1 ≤ k ∧ k < (nxS (byS s i)).1 ∧ ¬ conS s (i + k)
  · rw [chS_none (.inr (.inr h2)) hi]; simp only; omega
  have h2' : ∀ k, 1 ≤ k → k < (nxS (byS s i)).1 → conS s (i + k) := fun k a b => Classical.byContradiction fun q => h2 ⟨k, a, b, q⟩
  have hn4 : (nxS (byS s i)).1 ≤ 4 := by
    rcases nxS_cases (byS s i) with ⟨q, e⟩ | ⟨q, q', e⟩ | ⟨q, q', e⟩ | ⟨q, q', e⟩ | ⟨q, e⟩ <;> rw [e] <;> simp
  obtain ⟨a, b⟩ := chS_some h0 (by omega) h2'
  by_cases h3 : offS (acS s i (nxS (byS s i)).1) (nxS (byS s i)).2.2
  · rw [a h3]; simp only; omega
  · rw [(b h3).2]; omega
/-- Where the k-th character behind a begins. -/
def ps (s : ByteArray) (a : Nat) : Nat → Nat
  | 0 => a
  | k + 1 => ps s a k + (chS s (ps s a k)).2
/-- k characters lie behind a. -/
def gdS (s : ByteArray) (a k : Nat) : Prop := ∀ j, j < k → ps s a j < s.size ∧ (chS s (ps s a j)).2 ≠ 0
theorem gdS.zero (s : ByteArray) (a : Nat) : gdS s a 0 := fun j h => absurd h (Nat.not_lt_zero j)
theorem gdS.succ {s : ByteArray} {a k : Nat} (h : gdS s a k) (h1 : ps s a k < s.size) (h2 : (chS s (ps s a k)).2 ≠ 0) : gdS s a (k + 1) := fun j hj => by
  by_cases e : j = k
  · subst e; exact ⟨h1, h2⟩
  · exact h j (by omega)
theorem gdS.low {s : ByteArray} {a k : Nat} (h : gdS s a k) (j : Nat) (hj : j ≤ k) : gdS s a j := fun i hi => h i (by omega)
theorem gdS.le {s : ByteArray} {a : Nat} (ha : a ≤ s.size) : ∀ {k : Nat}, gdS s a k → ps s a k ≤ s.size ∧ a + k ≤ ps s a k
  | 0, _ => ⟨ha, Nat.le_refl _⟩
  | k + 1, h => by
    obtain ⟨h1, h2⟩ := h k (Nat.lt_succ_self k)
    have h3 := chS_in h1
    have h4 := gdS.le ha (h.low k (Nat.le_succ k))
    have e : ps s a (k + 1) = ps s a k + (chS s (ps s a k)).2 := rfl
    omega
/-- Where the characters end: at the text's end, or at a bad byte. -/
def ColE (s : ByteArray) (a k : Nat) (e : Int) : Prop := gdS s a k ∧ ((e = 0 ∧ ps s a k = s.size) ∨ (e = 12 ∧ ps s a k < s.size ∧ (chS s (ps s a k)).2 = 0))
theorem colE_one {s : ByteArray} {a k l : Nat} {e f : Int} (h : ColE s a k e) (g : ColE s a l f) : k = l ∧ e = f := by
  obtain ⟨h1, h2⟩ := h
  obtain ⟨g1, g2⟩ := g
  by_cases c : k < l
  · exfalso
    have := g1 k c
    rcases h2 with ⟨_, h⟩ | ⟨_, _, h⟩
    · omega
    · exact this.2 h
  by_cases c' : l < k
  · exfalso
    have := h1 l c'
    rcases g2 with ⟨_, h⟩ | ⟨_, _, h⟩
    · omega
    · exact this.2 h
  obtain rfl : k = l := by omega
  refine ⟨rfl, ?_⟩
  rcases h2 with ⟨a1, a2⟩ | ⟨a1, a2, a3⟩ <;> rcases g2 with ⟨b1, b2⟩ | ⟨b1, b2, b3⟩ <;> omega
/-- What Columns answers. -/
def ColD (s : ByteArray) (n e : Int) : Prop := ∃ k, ColE s 0 k e ∧ n = (if e = 0 then (k : Int) else 0)
theorem colD_one {s : ByteArray} {n m e f : Int} (h : ColD s n e) (g : ColD s m f) : n = m ∧ e = f := by
  obtain ⟨k, h1, rfl⟩ := h
  obtain ⟨l, g1, rfl⟩ := g
  obtain ⟨rfl, rfl⟩ := colE_one h1 g1
  exact ⟨rfl, rfl⟩
theorem colE_ex (s : ByteArray) {a : Nat} (ha : a ≤ s.size) : ∃ k e, ColE s a k e := by
  have key : ∀ d k, gdS s a k → s.size - ps s a k ≤ d → ∃ k e, ColE s a k e := by
    intro d
    induction d with
    | zero =>
      intro k h hd
      have := h.le ha
      exact ⟨k, 0, h, .inl ⟨rfl, by omega⟩⟩
    | succ d ih =>
      intro k h hd
      by_cases h1 : ps s a k < s.size
      · by_cases h2 : (chS s (ps s a k)).2 = 0
        · exact ⟨k, 12, h, .inr ⟨rfl, h1, h2⟩⟩
        · have e : ps s a (k + 1) = ps s a k + (chS s (ps s a k)).2 := rfl
          exact ih (k + 1) (h.succ h1 h2) (by omega)
      · have := h.le ha
        exact ⟨k, 0, h, .inl ⟨rfl, by omega⟩⟩
  exact key _ 0 (gdS.zero s a) (Nat.le_refl _)
end Go.Proofs.YtdfnehngffajiabDoor

/- Lc25 -/
namespace Go.Proofs.YtdfnehngffajiabDoor
open Go.RowKit
set_option linter.unusedVariables false

def ChD (s : ByteArray) (i : Nat) (w : World) (e : Ending) (w' : World) : Prop := e = .returned (.tuple #[.int .i64 ((chS s i).1 : Int), .int .i64 ((chS s i).2 : Int)]) ∧ w' = w
end Go.Proofs.YtdfnehngffajiabDoor

/- Co25 -/
namespace Go.Proofs.YtdfnehngffajiabDoor
open Go.RowKit
set_option linter.unusedVariables false

end Go.Proofs.YtdfnehngffajiabDoor

/- Ck25 -/
namespace Go.Proofs.YtdfnehngffajiabDoor
open Go.RowKit
set_option linter.unusedVariables false

def digS (v : Nat) : Bool := decide (48 ≤ v ∧ v ≤ 57)
def letS (v : Nat) : Bool := decide ((97 ≤ v ∧ v ≤ 122) ∨ (65 ≤ v ∧ v ≤ 90) ∨ v = 95 ∨ (192 ≤ v ∧ v ≤ 687 ∧ v ≠ 215 ∧ v ≠ 247) ∨ (880 ≤ v ∧ v ≤ 1023))
def blkS (v : Nat) : Bool := decide (v = 32 ∨ v = 9 ∨ v = 160)
end Go.Proofs.YtdfnehngffajiabDoor

/- Ru25 -/
namespace Go.Proofs.YtdfnehngffajiabDoor
open Go.RowKit
set_option linter.unusedVariables false

/-- A character that goes on a run. -/
def okC (number : Bool) (v : Nat) : Bool := digS v || (v == 95 || (!number && letS v))
/-- The longest run from a on has k characters. -/
def RunE (s : ByteArray) (a : Nat) (number : Bool) (k : Nat) : Prop := gdS s a k ∧ (∀ j, j < k → okC number (chS s (ps s a j)).1 = true) ∧ ¬ (ps s a k < s.size ∧ (chS s (ps s a k)).2 ≠ 0 ∧ okC number (chS s (ps s a k)).1 = true)
theorem runE_one {s : ByteArray} {a k l : Nat} {b : Bool} (h : RunE s a b k) (g : RunE s a b l) : k = l := by
  obtain ⟨h1, h2, h3⟩ := h
  obtain ⟨g1, g2, g3⟩ := g
  by_cases c : k < l
  · exact absurd ⟨(g1 k c).1, (g1 k c).2, g2 k c⟩ h3
  by_cases c' : l < k
  · exact absurd ⟨(h1 l c').1, (h1 l c').2, h2 l c'⟩ g3
  omega
end Go.Proofs.YtdfnehngffajiabDoor

/- To25 -/
namespace Go.Proofs.YtdfnehngffajiabDoor
open Go.RowKit
set_option linter.unusedVariables false

theorem emp25 {M : ByteArray} (h : ¬ M = ⟨#[]⟩) : M.toList.isEmpty = false := by
  rw [Bool.eq_false_iff]
  intro q
  rw [List.isEmpty_iff, Lib.toList_data] at q
  obtain ⟨d⟩ := M
  simp at q
  exact h (by rw [q])
open Classical in
noncomputable def runK (s : ByteArray) (i : Nat) (b : Bool) : Nat := if h : ∃ k, RunE s i b k then Classical.choose h else 0
theorem runK_eq {s : ByteArray} {i k : Nat} {b : Bool} (h : RunE s i b k) : runK s i b = k := by
  have q : ∃ k, RunE s i b k := ⟨k, h⟩
  unfold runK
  rw [dif_pos q]
  exact runE_one (Classical.choose_spec q) h
open Classical in
noncomputable def colK (s : ByteArray) (i : Nat) : Nat × Int := if h : ∃ p : Nat × Int, ColE s i p.1 p.2 then Classical.choose h else (0, 0)
theorem colK_eq {s : ByteArray} {i k : Nat} {f : Int} (h : ColE s i k f) : colK s i = (k, f) := by
  have q : ∃ p : Nat × Int, ColE s i p.1 p.2 := ⟨(k, f), h⟩
  unfold colK
  rw [dif_pos q]
  have e := colE_one (Classical.choose_spec q) h
  exact Prod.ext e.1 e.2
/-- What is done at a place: go on with some tokens more, or stop. -/
inductive Sp25 where
  | go (i c : Nat) (t : List Tok)
  | stop (a e : Int)
noncomputable def sp25 (s : ByteArray) (g : ByteArray → Int) (i c : Nat) : Sp25 :=
  if ¬ i < s.size then .stop 0 0
  else if (chS s i).2 = 0 then .stop (c : Int) 12
  else if blkS (chS s i).1 = true then .go (i + (chS s i).2) (c + 1) []
  else if (chS s i).1 = 35 then (if (colK s i).2 = 0 then .stop 0 0 else .stop ((c : Int) + ((colK s i).1 : Nat)) 12)
  else if digS (chS s i).1 = true then (if g (s.extract i (ps s i (runK s i true))) = 0 then .go (ps s i (runK s i true)) (c + runK s i true) [⟨1, s.extract i (ps s i (runK s i true)), (c : Int)⟩] else .stop (c : Int) 7)
  else if letS (chS s i).1 = true then (if 32 < ps s i (runK s i false) - i then .stop (c : Int) 17 else .go (ps s i (runK s i false)) (c + runK s i false) [⟨2, s.extract i (ps s i (runK s i false)), (c : Int)⟩])
  else if mkS (chS s i).1 = ⟨#[]⟩ then .stop (c : Int) 13
  else .go (i + (chS s i).2) (c + 1) [⟨3, mkS (chS s i).1, (c : Int)⟩]
/-- The tokens from the place i, in the column c, on; the column that is told, the error. -/
inductive Tkn (s : ByteArray) (g : ByteArray → Int) : Nat → Nat → List Tok → Int → Int → Prop
  | stop {i c : Nat} {a e : Int} : sp25 s g i c = .stop a e → Tkn s g i c [] a e
  | go {i c i' c' : Nat} {t L : List Tok} {a e : Int} : sp25 s g i c = .go i' c' t → Tkn s g i' c' L a e → Tkn s g i c (if e = 0 then t ++ L else []) a e
theorem tkn_one {s : ByteArray} {g : ByteArray → Int} {i c : Nat} {L L' : List Tok} {a a' e e' : Int} (h : Tkn s g i c L a e) (h' : Tkn s g i c L' a' e') : L = L' ∧ a = a' ∧ e = e' := by
  induction h generalizing L' a' e' with
  | stop q =>
    cases h' with
    | stop q' => rw [q] at q'; cases q'; exact ⟨rfl, rfl, rfl⟩
    | go q' _ => rw [q] at q'; cases q'
  | go q h ih =>
    cases h' with
    | stop q' => rw [q] at q'; cases q'
    | go q' h2 =>
      rw [q] at q'
      cases q'
      obtain ⟨rfl, rfl, rfl⟩ := ih h2
      exact ⟨rfl, rfl, rfl⟩
def TkN (s : ByteArray) (g : ByteArray → Int) (i c : Nat) (L0 : List Tok) : Prop := ∀ L a e, Tkn s g i c L a e → Tkn s g 0 1 (if e = 0 then L0 ++ L else []) a e
theorem TkN.start (s : ByteArray) (g : ByteArray → Int) : TkN s g 0 1 [] := fun L a e h => by
  by_cases q : e = 0
  · rw [if_pos q, List.nil_append]; exact h
  · have : L = [] := by
      cases h with
      | stop _ => rfl
      | go _ _ => exact if_neg q
    rw [if_neg q, ← this]; exact h
theorem TkN.next {s : ByteArray} {g : ByteArray → Int} {i c i' c' : Nat} {L0 t : List Tok} (h : TkN s g i c L0) (q : sp25 s g i c = .go i' c' t) : TkN s g i' c' (L0 ++ t) := fun L a e hL => by
  have := h _ _ _ (Tkn.go q hL)
  by_cases z : e = 0
  · rw [if_pos z] at this ⊢
    rw [if_pos z, ← List.append_assoc] at this
    exact this
  · rw [if_neg z] at this ⊢
    exact this
theorem TkN.fin {s : ByteArray} {g : ByteArray → Int} {i c : Nat} {L0 : List Tok} (h : TkN s g i c L0) (q : sp25 s g i c = .stop 0 0) : Tkn s g 0 1 L0 0 0 := by
  have := h _ _ _ (Tkn.stop q)
  rw [if_pos rfl, List.append_nil] at this
  exact this
theorem TkN.bad {s : ByteArray} {g : ByteArray → Int} {i c : Nat} {L0 : List Tok} {a e : Int} (h : TkN s g i c L0) (q : sp25 s g i c = .stop a e) (he : e ≠ 0) : Tkn s g 0 1 [] a e := by
  have := h _ _ _ (Tkn.stop q)
  rw [if_neg he] at this
  exact this
/-- What Tokens answers. -/
def TokD (s : ByteArray) (g : ByteArray → Int) (w : World) (x : Ending) (w' : World) : Prop := ∃ v L a e, x = .returned (.tuple #[v, .int .i64 a, .int .i64 e]) ∧ Tkn s g 0 1 L a e ∧ Toks w.heap.size w' v L ∧ Below w.heap.size w w'
end Go.Proofs.YtdfnehngffajiabDoor
