/-
  QBs25ToBt25: Bs25, Bt25, joined.
-/
import Derived.Test.YtdfnehngffajiabDoorQRt25ToLq25

/- Bs25 -/
namespace Go.Proofs.YtdfnehngffajiabDoor
open Go.RowKit
set_option linter.unusedVariables false

/-- One blank byte. -/
def gapB (tab : Bool) : ByteArray := if tab then ⟨#[9]⟩ else ⟨#[32]⟩
theorem gap_size (tab : Bool) : (gapB tab).size = 1 := by cases tab <;> rfl
theorem gap_by (tab : Bool) : byS (gapB tab) 0 = (if tab then 9 else 32) := by cases tab <;> rfl
theorem gap_ch (tab : Bool) : chS (gapB tab) 0 = ((if tab then 9 else 32), 1) := by cases tab <;> decide +kernel
/-- In a text behind which a blank stands, no character goes on over its end. -/
theorem chS_gap {a b : ByteArray} {tab : Bool} {i : Nat} (hi : i < a.size) : chS (a ++ (gapB tab ++ b)) i = chS a i := by
  have hgs := gap_size tab
  have hsz : (a ++ (gapB tab ++ b)).size = a.size + (1 + b.size) := by rw [app_size, app_size, hgs]
  have hgap : byS (a ++ (gapB tab ++ b)) a.size < 128 := by
    have := @byS_right a (gapB tab ++ b) 0
    rw [Nat.add_zero] at this
    rw [this, byS_left (by omega), gap_by]
    split <;> omega
  have hb0 : byS (a ++ (gapB tab ++ b)) i = byS a i := byS_left hi
  have hi2 : i < (a ++ (gapB tab ++ b)).size := by omega
  by_cases hc : (chS a i).2 = 0
  · have z : chS a i = (0, 0) := by
      rcases chS_form hi with q | ⟨q1, q2, q3, q4, q5, q6⟩
      · exact q
      · rw [q5] at hc; exact absurd hc q1
    rw [z]
    by_cases h0 : (nxS (byS a i)).1 = 0
    · exact chS_none (.inl (by rw [hb0]; exact h0)) hi2
    by_cases h1 : a.size < i + (nxS (byS a i)).1
    · refine chS_none (.inr (.inr ⟨a.size - i, by omega, by rw [hb0]; omega, fun q => ?_⟩)) hi2
      unfold conS at q
      rw [show i + (a.size - i) = a.size by omega] at q
      omega
    by_cases h2 : ∃ k, 1 ≤ k ∧ k < (nxS (byS a i)).1 ∧ ¬ conS a (i + k)
    · obtain ⟨k, k1, k2, k3⟩ := h2
      refine chS_none (.inr (.inr ⟨k, k1, by rw [hb0]; exact k2, fun q => k3 ?_⟩)) hi2
      unfold conS at q ⊢
      rw [byS_left (by omega)] at q
      exact q
    have h2' : ∀ k, 1 ≤ k → k < (nxS (byS a i)).1 → conS a (i + k) := fun k x y => Classical.byContradiction fun q => h2 ⟨k, x, y, q⟩
    obtain ⟨s1, s2⟩ := chS_some h0 (by omega) h2'
    have ho : offS (acS a i (nxS (byS a i)).1) (nxS (byS a i)).2.2 := Classical.byContradiction fun q => h0 ((s2 q).2.symm.trans hc)
    have e := acS_congr (s := a ++ (gapB tab ++ b)) (t := a) (i := i) (j := i) (nxS (byS a i)).1 (fun k hk => byS_left (by omega))
    have g := @chS_some (a ++ (gapB tab ++ b)) i (by rw [hb0]; exact h0) (by rw [hb0]; omega) (by
      rw [hb0]
      intro k k1 k2
      have := h2' k k1 k2
      unfold conS at this ⊢
      rw [byS_left (by omega)]
      exact this)
    rw [hb0, e] at g
    exact g.1 ho
  · exact chS_left hi hc
theorem chS_gapAt {a b : ByteArray} {tab : Bool} : chS (a ++ (gapB tab ++ b)) a.size = ((if tab then 9 else 32), 1) := by
  have hgs := gap_size tab
  have := @chS_right a (gapB tab ++ b) 0 (by rw [app_size]; omega)
  rw [Nat.add_zero] at this
  rw [this, chS_left (by omega) (by rw [gap_ch]; simp), gap_ch]
theorem ps_gap {a b : ByteArray} {tab : Bool} {i k : Nat} (hi : i ≤ a.size) (h : gdS a i k) : ∀ j, j ≤ k → ps (a ++ (gapB tab ++ b)) i j = ps a i j
  | 0, _ => rfl
  | j + 1, hj => by
    have ih := ps_gap (b := b) (tab := tab) hi h j (by omega)
    show ps (a ++ (gapB tab ++ b)) i j + (chS (a ++ (gapB tab ++ b)) (ps (a ++ (gapB tab ++ b)) i j)).2 = ps a i j + (chS a (ps a i j)).2
    rw [ih, chS_gap (h j (by omega)).1]
theorem runE_gap {a b : ByteArray} {tab : Bool} {i k : Nat} {n : Bool} (hi : i ≤ a.size) (h : RunE a i n k) : RunE (a ++ (gapB tab ++ b)) i n k := by
  obtain ⟨h1, h2, h3⟩ := h
  have p := ps_gap (b := b) (tab := tab) hi h1
  have hsz : (a ++ (gapB tab ++ b)).size = a.size + (1 + b.size) := by rw [app_size, app_size, gap_size]
  refine ⟨fun j hj => ?_, fun j hj => ?_, ?_⟩
  · rw [p j (by omega), chS_gap (h1 j hj).1]
    exact ⟨by have := (h1 j hj).1; omega, (h1 j hj).2⟩
  · rw [p j (by omega), chS_gap (h1 j hj).1]
    exact h2 j hj
  · rw [p k (Nat.le_refl _)]
    intro q
    by_cases z : ps a i k < a.size
    · rw [chS_gap z] at q
      exact h3 ⟨z, q.2⟩
    · have := (h1.le hi).1
      rw [show ps a i k = a.size by omega, chS_gapAt] at q
      have := q.2.2
      revert this
      cases tab <;> cases n <;> decide
theorem runK_gap {a b : ByteArray} {tab n : Bool} {i : Nat} (hi : i ≤ a.size) : runK (a ++ (gapB tab ++ b)) i n = runK a i n ∧ ps (a ++ (gapB tab ++ b)) i (runK a i n) = ps a i (runK a i n) ∧ ps a i (runK a i n) ≤ a.size ∧ gdS a i (runK a i n) := by
  obtain ⟨k, hk⟩ := runE_ex a n hi
  rw [runK_eq hk, runK_eq (runE_gap (b := b) (tab := tab) hi hk)]
  exact ⟨rfl, ps_gap hi hk.1 k (Nat.le_refl _), (hk.1.le hi).1, hk.1⟩
/-- Within the first text all goes as if it stood alone. -/
theorem sp25_gap {a b : ByteArray} {tab : Bool} {g : ByteArray → Int} {i c : Nat} (hi : i < a.size) (hno : (chS a i).1 ≠ 35) : sp25 (a ++ (gapB tab ++ b)) g i c = sp25 a g i c := by
  have hsz : (a ++ (gapB tab ++ b)).size = a.size + (1 + b.size) := by rw [app_size, app_size, gap_size]
  obtain ⟨r1, r2, r3, _⟩ := @runK_gap a b tab true i (Nat.le_of_lt hi)
  obtain ⟨q1, q2, q3, _⟩ := @runK_gap a b tab false i (Nat.le_of_lt hi)
  unfold sp25
  rw [chS_gap hi, r1, r2, q1, q2, ext_left r3, ext_left q3, if_neg (show ¬ ¬ i < (a ++ (gapB tab ++ b)).size by omega), if_neg (show ¬ ¬ i < a.size by omega), if_neg hno, if_neg hno]
end Go.Proofs.YtdfnehngffajiabDoor

/- Bt25 -/
namespace Go.Proofs.YtdfnehngffajiabDoor
open Go.RowKit
set_option linter.unusedVariables false

/-- A token, d columns on. -/
def shT (d : Nat) (t : Tok) : Tok := ⟨t.k, t.x, t.c + (d : Int)⟩
def Sp25.sh (n d : Nat) : Sp25 → Sp25
  | .go i c t => .go (n + i) (c + d) (t.map (shT d))
  | .stop a e => .stop (if e = 0 then a else a + (d : Int)) e
theorem ps_at {p b : ByteArray} {j k : Nat} (h : gdS b j k) : ∀ m, m ≤ k → ps (p ++ b) (p.size + j) m = p.size + ps b j m
  | 0, _ => rfl
  | m + 1, hm => by
    have ih := ps_at (p := p) h m (by omega)
    show ps (p ++ b) (p.size + j) m + (chS (p ++ b) (ps (p ++ b) (p.size + j) m)).2 = p.size + (ps b j m + (chS b (ps b j m)).2)
    rw [ih, chS_right (h m (by omega)).1]
    omega
theorem gdS_at {p b : ByteArray} {j k : Nat} (h : gdS b j k) : gdS (p ++ b) (p.size + j) k := fun m hm => by
  have q := h m hm
  rw [ps_at h m (by omega), chS_right q.1, app_size]
  exact ⟨by omega, q.2⟩
theorem runE_at {p b : ByteArray} {j k : Nat} {n : Bool} (h : RunE b j n k) : RunE (p ++ b) (p.size + j) n k := by
  obtain ⟨h1, h2, h3⟩ := h
  refine ⟨gdS_at h1, fun m hm => ?_, ?_⟩
  · rw [ps_at h1 m (by omega), chS_right (h1 m hm).1]
    exact h2 m hm
  · rw [ps_at h1 k (Nat.le_refl _), app_size]
    intro q
    have z : ps b j k < b.size := by omega
    rw [chS_right z] at q
    exact h3 ⟨z, q.2⟩
theorem colE_at {p b : ByteArray} {j k : Nat} {f : Int} (h : ColE b j k f) : ColE (p ++ b) (p.size + j) k f := by
  obtain ⟨h1, h2⟩ := h
  refine ⟨gdS_at h1, ?_⟩
  rw [ps_at h1 k (Nat.le_refl _), app_size]
  rcases h2 with ⟨q1, q2⟩ | ⟨q1, q2, q3⟩
  · exact .inl ⟨q1, by omega⟩
  · exact .inr ⟨q1, by omega, by rw [chS_right q2]; exact q3⟩
theorem runK_at {p b : ByteArray} {n : Bool} {j : Nat} (hj : j ≤ b.size) : runK (p ++ b) (p.size + j) n = runK b j n ∧ ps (p ++ b) (p.size + j) (runK b j n) = p.size + ps b j (runK b j n) := by
  obtain ⟨k, hk⟩ := runE_ex b n hj
  rw [runK_eq hk, runK_eq (runE_at hk)]
  exact ⟨rfl, ps_at hk.1 k (Nat.le_refl _)⟩
theorem colK_at {p b : ByteArray} {j : Nat} (hj : j ≤ b.size) : colK (p ++ b) (p.size + j) = colK b j := by
  obtain ⟨k, f, hk⟩ := colE_ex b hj
  rw [colK_eq hk, colK_eq (colE_at hk)]
/-- Behind another text all goes as if it stood alone, but for places and columns. -/
theorem sp25_at {p b : ByteArray} {g : ByteArray → Int} {j c : Nat} (d : Nat) (hj : j ≤ b.size) : sp25 (p ++ b) g (p.size + j) (c + d) = (sp25 b g j c).sh p.size d := by
  obtain ⟨r1, r2⟩ := @runK_at p b true j hj
  obtain ⟨q1, q2⟩ := @runK_at p b false j hj
  unfold sp25
  by_cases h0 : ¬ j < b.size
  · rw [if_pos h0, if_pos (by rw [app_size]; omega)]
    rfl
  have hj2 : j < b.size := by omega
  rw [if_neg h0, if_neg (show ¬ ¬ p.size + j < (p ++ b).size by rw [app_size]; omega), chS_right hj2, r1, r2, q1, q2, ext_right, ext_right, colK_at hj]
  have ec : ∀ x : Nat, ((c + d : Nat) : Int) + (x : Nat) = (c : Int) + (x : Nat) + (d : Int) := fun x => by omega
  have ed : ((c + d : Nat) : Int) = (c : Int) + (d : Int) := by omega
  by_cases h1 : (chS b j).2 = 0
  · rw [if_pos h1, if_pos h1]; simp only [Sp25.sh]; rw [if_neg (by omega), ed]
  rw [if_neg h1, if_neg h1]
  by_cases h2 : blkS (chS b j).1 = true
  · rw [if_pos h2, if_pos h2]
    simp only [Sp25.sh, List.map_nil]
    rw [show p.size + j + (chS b j).2 = p.size + (j + (chS b j).2) by omega, show c + d + 1 = c + 1 + d by omega]
  rw [if_neg h2, if_neg h2]
  by_cases h3 : (chS b j).1 = 35
  · rw [if_pos h3, if_pos h3]
    by_cases q : (colK b j).2 = 0
    · rw [if_pos q, if_pos q]; rfl
    · rw [if_neg q, if_neg q]; simp only [Sp25.sh]; rw [if_neg (by omega), ec]
  rw [if_neg h3, if_neg h3]
  by_cases h4 : digS (chS b j).1 = true
  · rw [if_pos h4, if_pos h4]
    by_cases q : g (b.extract j (ps b j (runK b j true))) = 0
    · rw [if_pos q, if_pos q]
      simp only [Sp25.sh, List.map_cons, List.map_nil, shT]
      rw [show c + d + runK b j true = c + runK b j true + d by omega, ed]
    · rw [if_neg q, if_neg q]; simp only [Sp25.sh]; rw [if_neg (by omega), ed]
  rw [if_neg h4, if_neg h4]
  by_cases h5 : letS (chS b j).1 = true
  · rw [if_pos h5, if_pos h5]
    by_cases q : 32 < ps b j (runK b j false) - j
    · rw [if_pos q, if_pos (by omega)]; simp only [Sp25.sh]; rw [if_neg (by omega), ed]
    · rw [if_neg q, if_neg (by omega)]
      simp only [Sp25.sh, List.map_cons, List.map_nil, shT]
      rw [show c + d + runK b j false = c + runK b j false + d by omega, ed]
  rw [if_neg h5, if_neg h5]
  by_cases h6 : mkS (chS b j).1 = ⟨#[]⟩
  · rw [if_pos h6, if_pos h6]; simp only [Sp25.sh]; rw [if_neg (by omega), ed]
  · rw [if_neg h6, if_neg h6]
    simp only [Sp25.sh, List.map_cons, List.map_nil, shT]
    rw [show p.size + j + (chS b j).2 = p.size + (j + (chS b j).2) by omega, show c + d + 1 = c + 1 + d by omega, ed]
theorem tkn_at {p b : ByteArray} {g : ByteArray → Int} {j c : Nat} {L : List Tok} {a e : Int} (d : Nat) (h : Tkn b g j c L a e) (hj : j ≤ b.size) : Tkn (p ++ b) g (p.size + j) (c + d) (L.map (shT d)) (if e = 0 then a else a + (d : Int)) e := by
  induction h with
  | stop q =>
    refine Tkn.stop ?_
    rw [sp25_at d hj, q]
    rfl
  | @go i c i' c' t L a e q h ih =>
    have := (sp25_go q).2.1
    have z := Tkn.go (s := p ++ b) (g := g) (i := p.size + i) (c := c + d) (t := t.map (shT d)) (by rw [sp25_at d hj, q]; rfl) (ih this)
    by_cases y : e = 0
    · rw [if_pos y] at z ⊢
      rw [if_pos y, ← List.map_append] at z
      rw [if_pos y]
      exact z
    · rw [if_neg y] at z ⊢
      rw [if_neg y] at z
      rw [if_neg y]
      exact z
end Go.Proofs.YtdfnehngffajiabDoor
