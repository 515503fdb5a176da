/-
  Bh25: a comment; the characters of a line that has tokens.
-/
import Derived.Test.YtdfnehngffajiaaDoorBj25
namespace Go.Proofs.YtdfnehngffajiaaDoor
open Go.RowKit
set_option linter.unusedVariables false

abbrev hash25 : ByteArray := ⟨#[35]⟩
theorem ch_hash : chS hash25 0 = (35, 1) := by decide +kernel
theorem col_hash : ColE hash25 0 1 0 := by
  refine ⟨fun j hj => ?_, .inl ⟨rfl, ?_⟩⟩
  · obtain rfl : j = 0 := by omega
    show 0 < 1 ∧ (chS hash25 0).2 ≠ 0
    rw [ch_hash]
    exact ⟨by omega, by simp⟩
  · show 0 + (chS hash25 0).2 = 1
    rw [ch_hash]
    rfl
/-- In a comment nothing but a bad byte is seen. -/
theorem tkn_hash {b : ByteArray} {g : ByteArray → Int} {k : Nat} {f : Int} (h : ColE b 0 k f) : Tkn (hash25 ++ b) g 0 1 [] (if f = 0 then 0 else ((k + 2 : Nat) : Int)) f := by
  have hc := colE_app col_hash h
  have hch : chS (hash25 ++ b) 0 = (35, 1) := by
    rw [chS_left (by show 0 < 1; omega) (by rw [ch_hash]; simp), ch_hash]
  refine Tkn.stop ?_
  unfold sp25
  rw [if_neg (show ¬ ¬ 0 < (hash25 ++ b).size by rw [app_size]; show ¬ ¬ 0 < 1 + b.size; omega), hch, colK_eq hc, if_neg (by simp), if_neg (by decide), if_pos rfl]
  rcases colE_err h with rfl | rfl
  · rw [if_pos rfl, if_pos rfl]
  · rw [if_neg (by simp), if_neg (by simp)]
    congr 1
    omega
theorem tkn_col {a : ByteArray} {g : ByteArray → Int} (hno : ∀ j, j < a.size → byS a j ≠ 35) {i c : Nat} {La : List Tok} {ca ea : Int} (h : Tkn a g i c La ca ea) : ea = 0 → ∀ m, i = ps a 0 m → gdS a 0 m → ∃ k, ColE a 0 k 0 := by
  induction h with
  | @stop i c ca ea q =>
    intro e m hi hm
    have hle := (hm.le (Nat.zero_le _)).1
    by_cases z : i < a.size
    · exact absurd e (sp25_stop z (no35 hno z) q)
    · exact ⟨m, hm, .inl ⟨rfl, by omega⟩⟩
  | @go i c i' c' t L ca ea q h ih =>
    intro e m hi hm
    obtain ⟨k', e1, e2, e3⟩ := sp25_go2 q
    exact ih e (m + k') (by rw [ps_add, ← hi]; exact e1) (gdS_add hm (by rw [← hi]; exact e3))
/-- Where Tokens tells no fault and no comment stands, every character is sound. -/
theorem tkn_cols {a : ByteArray} {g : ByteArray → Int} (hno : ∀ j, j < a.size → byS a j ≠ 35) {La : List Tok} {ca : Int} (h : Tkn a g 0 1 La ca 0) : ∃ k, ColE a 0 k 0 := tkn_col hno h rfl 0 rfl (gdS.zero a 0)
/-- Two texts with a blank between. -/
theorem tkn_both {a b : ByteArray} {tab : Bool} {g : ByteArray → Int} (hno : ∀ j, j < a.size → byS a j ≠ 35) {La Lb : List Tok} {ca ea cb eb : Int} (h : Tkn a g 0 1 La ca ea) (hb : Tkn b g 0 1 Lb cb eb) :
    (ea ≠ 0 → Tkn (a ++ (gapB tab ++ b)) g 0 1 [] ca ea) ∧ (ea = 0 → ∀ k, ColE a 0 k 0 → Tkn (a ++ (gapB tab ++ b)) g 0 1 (if eb = 0 then La ++ Lb.map (shT (k + 1)) else []) (if eb = 0 then cb else cb + ((k + 1 : Nat) : Int)) eb) := by
  obtain ⟨h1, h2⟩ := tkn_join (b := b) (tab := tab) hno h 0 rfl rfl (gdS.zero a 0)
  exact ⟨h1, fun e k hk => h2 e Lb cb eb hb k hk⟩
end Go.Proofs.YtdfnehngffajiaaDoor
