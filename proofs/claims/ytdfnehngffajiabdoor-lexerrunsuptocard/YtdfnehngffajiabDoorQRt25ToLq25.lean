/-
  QRt25ToLq25: Rt25, Al25, Tn25, Lq25, joined.
-/
import Derived.Test.YtdfnehngffajiabDoorQTk25ToTx25
import Derived.Test.YtdfnehngffajiabDoorQLn25ToTo25
import Derived.Test.YtdfnehngffajiabDoorQCp25ToLib25
import Derived.Deep.RegionHeld3

/- Rt25 -/
namespace Go.Proofs.YtdfnehngffajiabDoor
open Go.RowKit
set_option linter.unusedVariables false

/-- What Lines answers. -/
def LinP (s : ByteArray) (w : World) (e : Ending) (w' : World) : Prop := ∃ v, e = .returned v ∧ Strs w.heap.size w' v (linesS s) ∧ Below w.heap.size w w'
theorem below_on25 {w0 w w' : World} (h : Below w0.heap.size w0 w) (k : Below w.heap.size w w') : Below w0.heap.size w0 w' := h.trans (k.mono h.size)
theorem below_dr25 {B : Nat} {w0 w : World} (n : Nat) (h : Below B w0 w) : Below B w0 (w.drewN n) := by
  induction n with
  | zero => exact h
  | succ n ih => exact ih.drew
theorem linesS_len (s : ByteArray) : (linesS s).length ≤ s.size + 1 := by
  have := (lnS_le s s.size).2
  unfold linesS
  split
  · omega
  · rw [List.length_append, List.length_singleton]; omega
theorem tkn_len {s : ByteArray} {g : ByteArray → Int} {i c : Nat} {L : List Tok} {a e : Int} (h : Tkn s g i c L a e) : True := trivial
end Go.Proofs.YtdfnehngffajiabDoor

/- Al25 -/
namespace Go.Proofs.YtdfnehngffajiabDoor
open Go.RowKit
set_option linter.unusedVariables false

/-- A script: its steps by their places. -/
def Script25 (w : World) (a : Option Addr) (len cap : Nat) (s : Nat → Int × ByteArray) : Prop :=
  len ≤ cap ∧ cap ≤ 35184372088832 ∧ (∀ k, k < len → (s k).2.size ≤ 1048576) ∧
  (len = 0 ∨ ∃ b off, a = some ⟨b, off, none⟩ ∧ b < w.heap.size ∧ ∀ k, k < len → w.cell? ⟨b, off + k * 2, none⟩ = some (.int .i64 (s k).1) ∧ w.cell? ⟨b, off + k * 2 + 1, none⟩ = some (.string (s k).2))
end Go.Proofs.YtdfnehngffajiabDoor

/- Tn25 -/
namespace Go.Proofs.YtdfnehngffajiabDoor
open Go.RowKit
set_option linter.unusedVariables false

theorem runE_ex (s : ByteArray) {a : Nat} (b : Bool) (ha : a ≤ s.size) : ∃ k, RunE s a b k := by
  have key : ∀ d k, gdS s a k → (∀ j, j < k → okC b (chS s (ps s a j)).1 = true) → s.size - ps s a k ≤ d → ∃ k, RunE s a b k := by
    intro d
    induction d with
    | zero =>
      intro k h1 h2 hd
      exact ⟨k, h1, h2, fun q => by omega⟩
    | succ d ih =>
      intro k h1 h2 hd
      by_cases q : ps s a k < s.size ∧ (chS s (ps s a k)).2 ≠ 0 ∧ okC b (chS s (ps s a k)).1 = true
      · have e : ps s a (k + 1) = ps s a k + (chS s (ps s a k)).2 := rfl
        refine ih (k + 1) (h1.succ q.1 q.2.1) (fun j hj => ?_) (by omega)
        by_cases z : j = k
        · subst z; exact q.2.2
        · exact h2 j (by omega)
      · exact ⟨k, h1, h2, q⟩
  exact key _ 0 (gdS.zero s a) (fun j h => absurd h (Nat.not_lt_zero j)) (Nat.le_refl _)
theorem runK_run {s : ByteArray} {i : Nat} {b : Bool} (hi : i < s.size) (hc : (chS s i).2 ≠ 0) (ho : okC b (chS s i).1 = true) : i < ps s i (runK s i b) ∧ ps s i (runK s i b) ≤ s.size := by
  obtain ⟨k, hk⟩ := runE_ex s b (Nat.le_of_lt hi)
  rw [runK_eq hk]
  have h1 := hk.1.le (Nat.le_of_lt hi)
  have h2 : k ≠ 0 := fun q => by
    subst q
    exact hk.2.2 ⟨hi, hc, ho⟩
  omega
theorem sp25_go {s : ByteArray} {g : ByteArray → Int} {i c i' c' : Nat} {t : List Tok} (h : sp25 s g i c = .go i' c' t) : i < i' ∧ i' ≤ s.size ∧ t.length ≤ 1 := by
  unfold sp25 at h
  by_cases h0 : ¬ i < s.size
  · rw [if_pos h0] at h; cases h
  rw [if_neg h0] at h
  have hi : i < s.size := by omega
  have hin := chS_in hi
  by_cases h1 : (chS s i).2 = 0
  · rw [if_pos h1] at h; cases h
  rw [if_neg h1] at h
  by_cases h2 : blkS (chS s i).1 = true
  · rw [if_pos h2] at h; cases h; exact ⟨by omega, hin.1, by simp⟩
  rw [if_neg h2] at h
  by_cases h3 : (chS s i).1 = 35
  · rw [if_pos h3] at h
    split at h <;> cases h
  rw [if_neg h3] at h
  by_cases h4 : digS (chS s i).1 = true
  · rw [if_pos h4] at h
    have := runK_run (b := true) hi h1 (by unfold okC; rw [h4]; rfl)
    split at h <;> cases h
    exact ⟨this.1, this.2, by simp⟩
  rw [if_neg h4] at h
  by_cases h5 : letS (chS s i).1 = true
  · rw [if_pos h5] at h
    have := runK_run (b := false) hi h1 (by unfold okC; rw [h5]; simp)
    split at h <;> cases h
    exact ⟨this.1, this.2, by simp⟩
  rw [if_neg h5] at h
  by_cases h6 : mkS (chS s i).1 = ⟨#[]⟩
  · rw [if_pos h6] at h; cases h
  · rw [if_neg h6] at h; cases h; exact ⟨by omega, hin.1, by simp⟩
theorem tkn_le {s : ByteArray} {g : ByteArray → Int} {i c : Nat} {L : List Tok} {a e : Int} (h : Tkn s g i c L a e) (hi : i ≤ s.size) : L.length + i ≤ s.size := by
  induction h with
  | stop _ => simpa using hi
  | go q _ ih =>
    obtain ⟨h1, h2, h3⟩ := sp25_go q
    have := ih h2
    split
    · rw [List.length_append]; omega
    · simp only [List.length_nil]; omega
end Go.Proofs.YtdfnehngffajiabDoor

/- Lq25 -/
namespace Go.Proofs.YtdfnehngffajiabDoor
open Go.RowKit
set_option linter.unusedVariables false

theorem ext_left {a b : ByteArray} {f e : Nat} (he : e ≤ a.size) : (a ++ b).extract f e = a.extract f e := by
  have hs : a.size = a.data.size := rfl
  apply ByteArray.ext
  rw [ByteArray.data_extract, ByteArray.data_extract, ByteArray.data_append, Array.extract_append, show e - a.data.size = 0 by omega]
  simp
theorem ext_right {a b : ByteArray} {f e : Nat} : (a ++ b).extract (a.size + f) (a.size + e) = b.extract f e := by
  have hs : a.size = a.data.size := rfl
  apply ByteArray.ext
  rw [ByteArray.data_extract, ByteArray.data_extract, ByteArray.data_append, Array.extract_append, show a.size + f - a.data.size = f by omega, show a.size + e - a.data.size = e by omega, Array.extract_empty_of_size_le_start (by omega)]
  simp
theorem ext_all (s : ByteArray) : s.extract 0 s.size = s := by
  apply ByteArray.ext
  rw [ByteArray.data_extract]
  show s.data.extract 0 s.data.size = s.data
  simp
theorem lnT_left {a b : ByteArray} {f i : Nat} (hi : i ≤ a.size) : lnT (a ++ b) f i = lnT a f i := by
  unfold lnT
  by_cases h : f < i
  · rw [byS_left (by omega)]
  · rw [if_neg (fun q => h q.1), if_neg (fun q => h q.1)]
theorem lnC_left {a b : ByteArray} {f i : Nat} (hi : i ≤ a.size) : lnC (a ++ b) f i = lnC a f i := by
  unfold lnC
  rw [lnT_left hi]
  refine ext_left ?_
  unfold lnT
  split <;> omega
theorem lnC_right {a b : ByteArray} {f i : Nat} : lnC (a ++ b) (a.size + f) (a.size + i) = lnC b f i := by
  have e : lnT (a ++ b) (a.size + f) (a.size + i) = a.size + lnT b f i := by
    unfold lnT
    by_cases h : f < i
    · rw [show a.size + i - 1 = a.size + (i - 1) by omega, byS_right]
      by_cases q : byS b (i - 1) = 13
      · rw [if_pos ⟨by omega, q⟩, if_pos ⟨h, q⟩]
      · rw [if_neg (fun z => q z.2), if_neg (fun z => q z.2)]
    · rw [if_neg (fun q => h (by omega)), if_neg (fun q => h q.1)]
  unfold lnC
  rw [e, ext_right]
theorem lnS_left {a b : ByteArray} : ∀ i, i ≤ a.size → lnS (a ++ b) i = lnS a i
  | 0, _ => rfl
  | i + 1, h => by
    have ih := lnS_left (a := a) (b := b) i (by omega)
    unfold lnS
    rw [ih, byS_left (by omega), lnC_left (by omega)]
theorem lnS_right {a b : ByteArray} (hf : (lnS a a.size).2 = a.size) : ∀ j, lnS (a ++ b) (a.size + j) = ((lnS a a.size).1 ++ (lnS b j).1, a.size + (lnS b j).2)
  | 0 => by
    rw [Nat.add_zero, lnS_left _ (Nat.le_refl _)]
    show lnS a a.size = ((lnS a a.size).1 ++ [], a.size + 0)
    rw [List.append_nil, Nat.add_zero]
    exact Prod.ext rfl hf
  | j + 1 => by
    have ih := lnS_right (b := b) hf j
    show (if byS (a ++ b) (a.size + j) = 10 then ((lnS (a ++ b) (a.size + j)).1 ++ [lnC (a ++ b) (lnS (a ++ b) (a.size + j)).2 (a.size + j)], a.size + j + 1) else lnS (a ++ b) (a.size + j)) = ((lnS a a.size).1 ++ (if byS b j = 10 then ((lnS b j).1 ++ [lnC b (lnS b j).2 j], j + 1) else lnS b j).1, a.size + (if byS b j = 10 then ((lnS b j).1 ++ [lnC b (lnS b j).2 j], j + 1) else lnS b j).2)
    rw [byS_right, ih]
    dsimp only
    rw [lnC_right]
    by_cases q : byS b j = 10
    · rw [if_pos q, if_pos q]
      dsimp only
      rw [List.append_assoc]
      rfl
    · rw [if_neg q, if_neg q]
/-- The lines of two texts, the first of which ends with its line. -/
theorem linesS_app {a b : ByteArray} (hf : (lnS a a.size).2 = a.size) : linesS (a ++ b) = linesS a ++ linesS b := by
  unfold linesS
  rw [app_size, lnS_right hf, if_pos hf]
  dsimp only
  by_cases q : (lnS b b.size).2 = b.size
  · rw [if_pos (by omega), if_pos q]
  · rw [if_neg (by omega), if_neg q, lnC_right, List.append_assoc]
abbrev nl25 : ByteArray := ⟨#[10]⟩
theorem lnS_nl (s : ByteArray) : lnS (s ++ nl25) (s ++ nl25).size = ((lnS s s.size).1 ++ [lnC s (lnS s s.size).2 s.size], (s ++ nl25).size) := by
  have e : (s ++ nl25).size = s.size + 1 := app_size _ _
  have b : byS (s ++ nl25) s.size = 10 := by
    have := @byS_right s nl25 0
    rw [Nat.add_zero] at this
    rw [this]
    rfl
  rw [e]
  show (if byS (s ++ nl25) s.size = 10 then ((lnS (s ++ nl25) s.size).1 ++ [lnC (s ++ nl25) (lnS (s ++ nl25) s.size).2 s.size], s.size + 1) else lnS (s ++ nl25) s.size) = _
  rw [if_pos b, lnS_left _ (Nat.le_refl _), lnC_left (Nat.le_refl _)]
theorem linesS_nl (s : ByteArray) : linesS (s ++ nl25) = (lnS s s.size).1 ++ [lnC s (lnS s s.size).2 s.size] := by
  unfold linesS
  rw [lnS_nl, if_pos rfl]
theorem linesS_cut (s t : ByteArray) : linesS (s ++ nl25 ++ t) = linesS (s ++ nl25) ++ linesS t := linesS_app (by rw [lnS_nl])
theorem lnS_none {s : ByteArray} : ∀ i, (∀ j, j < i → byS s j ≠ 10) → lnS s i = ([], 0)
  | 0, _ => rfl
  | i + 1, h => by
    have ih := lnS_none i (fun j hj => h j (by omega))
    show (if byS s i = 10 then _ else lnS s i) = _
    rw [if_neg (h i (Nat.lt_succ_self i)), ih]
/-- A text that is one line. -/
def oneL (s : ByteArray) : ByteArray := lnC s 0 s.size
theorem linesS_one {s : ByteArray} (h : ∀ j, j < s.size → byS s j ≠ 10) (h0 : 0 < s.size) : linesS s = [oneL s] := by
  unfold linesS
  rw [lnS_none _ h, if_neg (by dsimp only; omega)]
  rfl
theorem linesS_oneNl {s : ByteArray} (h : ∀ j, j < s.size → byS s j ≠ 10) : linesS (s ++ nl25) = [oneL s] := by
  rw [linesS_nl, lnS_none _ h]
  rfl
theorem oneL_cr {s : ByteArray} (h0 : 0 < s.size) (h : byS s (s.size - 1) = 13) : oneL s = s.extract 0 (s.size - 1) := by
  unfold oneL lnC lnT
  rw [if_pos ⟨h0, h⟩]
theorem oneL_no {s : ByteArray} (h : ¬ (0 < s.size ∧ byS s (s.size - 1) = 13)) : oneL s = s := by
  unfold oneL lnC lnT
  rw [if_neg h, ext_all]
end Go.Proofs.YtdfnehngffajiabDoor
