/-
  Reverse: a list of lists, turned round in place.
-/
import Derived.Test.YtdfnehngffajiabDoorQValueOf
import Derived.BigRegion
namespace Go.Proofs.YtdfnehngffajiabDoor
open Go.RowKit
set_option linter.unusedVariables false

/-- Block g holds slices of words. -/
def RowV (w : World) (g : Nat) (L : List Value) : Prop := w.heap[g]? = some (.cells L.toArray 34 (0, 0))
theorem RowV.lt {w : World} {g : Nat} {L : List Value} (h : RowV w g L) : g < w.heap.size := (Array.getElem?_eq_some_iff.1 h).1
theorem RowV.cell {w : World} {g : Nat} {L : List Value} (h : RowV w g L) {i : Nat} (hi : i < L.length) : w.cell? ⟨g, i, none⟩ = some L[i] := by
  unfold RowV at h
  simp [World.cell?, h, hi]
theorem RowV.frozen {w : World} {g : Nat} {L : List Value} (h : RowV w g L) (i : Nat) : w.frozen? ⟨g, i, none⟩ = false := by
  unfold RowV at h
  simp [World.frozen?, h]
theorem RowV.set {w : World} {g : Nat} {L : List Value} (h : RowV w g L) (i : Nat) (u : Value) : RowV (w.setCell ⟨g, i, none⟩ u) g (L.set i u) := by
  unfold RowV at h ⊢
  simp [World.setCell, Array.getElem?_modify, h]
theorem RowV.now {w w' : World} {g : Nat} {L : List Value} (h : RowV w g L) (hb : Below w.heap.size w w') : RowV w' g L := (hb.block g h.lt).trans h
/-- The list Us with its first k and its last k exchanged. -/
def revTo (Us : List Value) (k : Nat) : List Value := (List.range Us.length).map fun j => if j < k ∨ Us.length - 1 - j < k then Us.getD (Us.length - 1 - j) (.slice none 0 0) else Us.getD j (.slice none 0 0)
theorem revTo_len (Us : List Value) (k : Nat) : (revTo Us k).length = Us.length := by simp [revTo]
theorem revTo_get (Us : List Value) (k j : Nat) (h : j < (revTo Us k).length) : (revTo Us k)[j] = if j < k ∨ Us.length - 1 - j < k then Us.getD (Us.length - 1 - j) (.slice none 0 0) else Us.getD j (.slice none 0 0) := by simp [revTo]
theorem revTo_zero (Us : List Value) : revTo Us 0 = Us := by
  apply List.ext_getElem
  · exact revTo_len _ _
  · intro j h1 h2
    rw [revTo_get, if_neg (by omega)]
    simp [h2]
theorem revTo_step {Us : List Value} {k : Nat} (h : k + k + 1 < Us.length) : ((revTo Us k).set k (Us.getD (Us.length - 1 - k) (.slice none 0 0))).set (Us.length - 1 - k) (Us.getD k (.slice none 0 0)) = revTo Us (k + 1) := by
  apply List.ext_getElem
  · simp [revTo_len]
  · intro j h1 h2
    have hj : j < Us.length := by rw [revTo_len] at h2; exact h2
    rw [revTo_get, List.getElem_set, List.getElem_set]
    by_cases e1 : Us.length - 1 - k = j
    · rw [if_pos e1, if_pos (by omega), ← e1, show Us.length - 1 - (Us.length - 1 - k) = k by omega]
    · rw [if_neg e1]
      by_cases e2 : k = j
      · rw [if_pos e2, if_pos (by omega), e2]
      · rw [if_neg e2, revTo_get]
        by_cases e3 : j < k ∨ Us.length - 1 - j < k
        · rw [if_pos e3, if_pos (by omega)]
        · rw [if_neg e3, if_neg (by omega)]
theorem revTo_end {Us : List Value} {k : Nat} (h : Us.length ≤ k + k + 1) : revTo Us k = Us.reverse := by
  apply List.ext_getElem
  · simp [revTo_len]
  · intro j h1 h2
    have hj : j < Us.length := by simpa using h2
    rw [revTo_get, List.getElem_reverse]
    have hg : Us.getD (Us.length - 1 - j) (.slice none 0 0) = Us[Us.length - 1 - j] := by simp [show Us.length - 1 - j < Us.length by omega]
    by_cases e3 : j < k ∨ Us.length - 1 - j < k
    · rw [if_pos e3, hg]
    · rw [if_neg e3]
      have e4 : Us.length - 1 - j = j := by omega
      simp [e4, hj]
theorem getD_formed {B : Nat} {w : World} {v : Value} {Ps : List (List Int)} {Us : List Value} (h : ∀ j (h : j < Us.length) (h' : j < Ps.length), Mine 0 w Us[j] Ps[j]) (hl : Us.length = Ps.length) {j : Nat} (hj : j < Us.length) : ∃ a n c, Us.getD j (.slice none 0 0) = .slice a n c := by
  obtain ⟨a, c, e⟩ := (h j hj (by omega)).form
  exact ⟨a, _, c, by simp [hj]; exact e⟩
set_option maxRecDepth 100000 in
set_option maxHeartbeats 6400000 in
theorem reverse_row {w : World} {g cap : Nat} {Us R : List Value} (hr : RowV w g (Us ++ R)) (hf : ∀ j, j < Us.length → ∃ a n c, Us.getD j (.slice none 0 0) = .slice a n c) (hn : 0 < Us.length) (hl : Us.length ≤ 1073741824) (hc : Us.length ≤ cap) :
    Calls Tryd.prog 40 #[.slice (some ⟨g, 0, none⟩) Us.length cap] w fun e w' => e = .returned (.tuple #[]) ∧ RowV w' g (Us.reverse ++ R) ∧ Touch (· = g) w w' := by
  have H0 : Hid (RowV w g (revTo Us 0 ++ R)) := by unfold Hid; rw [revTo_zero]; exact hr
  have HF := hid hf
  obtain ⟨n, hnn⟩ : ∃ n, Us.length = n := ⟨_, rfl⟩
  have HN := hid hnn
  rw [hnn] at hn hl hc ⊢
  clear hr hf hnn
  go_enter Tryd.func40, Tryd.ntmps40
  go_wp2_with fail
  go_loopw [2, 3] (fun i j wr => ∃ k : Nat, k + k ≤ n ∧ i = .int .i64 (k : Int) ∧ j = .int .i64 ((n : Int) - 1 - k) ∧ Hid (RowV wr g (revTo Us k ++ R)) ∧ Hid (Touch (· = g) w wr)) (fun i _ _ => n - (intOf i).toNat)
  case atStart => exact ⟨0, by omega, rfl, by simp, H0, Touch.refl _ _⟩
  case round =>
    clear H0
    obtain ⟨k, hk, rfl, rfl, HR, HT⟩ := hrel
    by_cases hlt : k + k + 1 < n
    · obtain ⟨j, hj⟩ : ∃ j, j = n - 1 - k := ⟨_, rfl⟩
      have ej : (n : Int) - 1 - (k : Int) = (j : Int) := by omega
      rw [ej]
      have HJ := hid ej
      have hkj : k < j := by omega
      have hne : k ≠ j := by omega
      have hjn : j < n := by omega
      have hkl : k < (revTo Us k ++ R).length := by rw [List.length_append, revTo_len, HN.out]; omega
      have hjl : j < (revTo Us k ++ R).length := by rw [List.length_append, revTo_len, HN.out]; omega
      have c1 := HR.out.cell hkl
      have c2 := HR.out.cell hjl
      have g1 : (revTo Us k ++ R)[k] = Us.getD k (.slice none 0 0) := by
        rw [List.getElem_append_left (by rw [revTo_len, HN.out]; omega), revTo_get, if_neg (by rw [HN.out]; omega)]
      have g2 : (revTo Us k ++ R)[j] = Us.getD j (.slice none 0 0) := by
        rw [List.getElem_append_left (by rw [revTo_len, HN.out]; omega), revTo_get, if_neg (by rw [HN.out]; omega)]
      rw [g1] at c1
      rw [g2] at c2
      have f1 := HR.out.frozen k
      have f2 := HR.out.frozen j
      have c3 := (HR.out.set k (Us.getD j (.slice none 0 0))).cell (i := j) (by rw [List.length_set]; exact hjl)
      rw [List.getElem_set_ne hne, g2] at c3
      have HS : Hid (RowV ((wr.setCell ⟨g, k, none⟩ (Us.getD j (.slice none 0 0))).setCell ⟨g, j, none⟩ (Us.getD k (.slice none 0 0))) g (revTo Us (k + 1) ++ R)) := by
        unfold Hid
        have h1 := (HR.out.set k (Us.getD j (.slice none 0 0))).set j (Us.getD k (.slice none 0 0))
        rw [List.set_append_left _ _ (by rw [revTo_len, HN.out]; omega), List.set_append_left _ _ (by rw [List.length_set, revTo_len, HN.out]; omega)] at h1
        have h2 := revTo_step (Us := Us) (k := k) (by rw [HN.out]; omega)
        rw [HN.out, ← hj] at h2
        rw [← h2]
        exact h1
      have HT2 : Hid (Touch (· = g) w ((wr.setCell ⟨g, k, none⟩ (Us.getD j (.slice none 0 0))).setCell ⟨g, j, none⟩ (Us.getD k (.slice none 0 0)))) := (HT.out.setCell (.inr rfl) _ _).setCell (.inr rfl) _ _
      obtain ⟨a1, n1, b1, e1⟩ := HF.out k (by rw [HN.out]; omega)
      obtain ⟨a2, n2, b2, e2⟩ := HF.out j (by rw [HN.out]; omega)
      rw [e1] at c1 HS HT2
      rw [e2] at c2 c3 HS HT2
      clear g1 g2 hkl hjl HR HT ej hj
      go_wp2_with fail
      go_region
      have HS3 : Hid (RowV ((wr.setCell ⟨g, k, none⟩ (.slice a2 n2 b2)).setCell ⟨g, j, none⟩ (.slice a1 n1 b1)).drew g (revTo Us (k + 1) ++ R)) := HS.out
      have HT3 : Hid (Touch (· = g) w ((wr.setCell ⟨g, k, none⟩ (.slice a2 n2 b2)).setCell ⟨g, j, none⟩ (.slice a1 n1 b1)).drew) := HT2.out.drewN 1
      clear HS HT2 c1 c2 c3
      go_wp2
      go_roundw
      case rel => exact ⟨k + 1, by omega, by go_num, by rw [show (j : Int) - 1 = (n : Int) - 1 - ((k + 1 : Nat) : Int) by have := HJ.out; omega], HS3, HT3⟩
      case measure => first | (simp [intOf]; done) | (simp [intOf]; omega)
    · have hnl : ¬ (k : Int) < (n : Int) - 1 - (k : Int) := by omega
      rw [revTo_end (by rw [HN.out]; omega)] at HR
      generalize (n : Int) - 1 - (k : Int) = jj at *
      go_wp2
      go_end0
      exact ⟨rfl, HR.out, HT.out⟩
/-- A bunch turned round. -/
theorem reverse_any {B : Nat} {w : World} {a : Option Addr} {cap : Nat} {Ps : List (List Int)} (h : Bunch B w (.slice a Ps.length cap) Ps) (hn : 0 < Ps.length) (hl : Ps.length ≤ 1073741824) :
    Calls Tryd.prog 40 #[.slice a Ps.length cap] w fun e w' => e = .returned (.tuple #[]) ∧ Bunch B w' (.slice a Ps.length cap) Ps.reverse ∧ Below B w w' := by
  obtain ⟨Us, h1, h2, h3⟩ := h
  obtain ⟨q1, ⟨q2, q3⟩ | ⟨g, cap', cur, q2, q3, q4, q5, q6, q7, q8⟩⟩ := h1
  · omega
  rw [h2] at q2
  simp only [Value.slice.injEq] at q2
  obtain ⟨rfl, _, rfl⟩ := q2
  rw [Nat.mul_one] at q7 q8
  have hr : RowV w g (Us ++ cur.toList.drop Us.length) := by
    unfold RowV
    have e := List.take_append_drop Us.length cur.toList
    rw [q8] at e
    rw [e]
    simpa using q4
  have hlt := hr.lt
  have hsz : (Us ++ cur.toList.drop Us.length).length = cap := by
    have e := List.take_append_drop Us.length cur.toList
    rw [q8] at e
    rw [e, Array.length_toList]
    exact q7
  have hf : ∀ j, j < Us.length → ∃ a n c, Us.getD j (.slice none 0 0) = .slice a n c := fun j hj => getD_formed (B := 0) (v := .slice none 0 0) h3 h2 hj
  have H := reverse_row hr hf (by omega) (by omega) (by omega : Us.length ≤ cap)
  rw [h2] at H
  refine H.mono fun e w' ⟨r1, r2, r3⟩ => ⟨r1, ⟨Us.reverse, ?_, by simp [h2], fun j j1 j2 => ?_⟩, below_touch (Below.refl B w) r3 (fun q e => by have e' : q = g := e; omega) (by omega)⟩
  · rw [List.length_reverse, h2]
    refine ⟨by simp [h2], .inr ⟨g, cap, _, rfl, q3, r2, by omega, q6, ?_, ?_⟩⟩
    · rw [Nat.mul_one]
      rw [List.length_append] at hsz
      simp
      simp at hsz
      omega
    · rw [Nat.mul_one, ← h2, ← List.length_reverse]
      simp
  · have hj : j < Us.length := by simpa using j1
    rw [List.getElem_reverse, List.getElem_reverse]
    have hm := h3 (Us.length - 1 - j) (by omega) (by omega)
    have e : Ps.length - 1 - j = Us.length - 1 - j := by omega
    simp only [e]
    obtain ⟨hw, h | ⟨b, r, cp, m1, m2, m3, m4, m5, m6⟩⟩ := hm
    · exact ⟨hw, .inl h⟩
    · refine ⟨hw, .inr ⟨b, r, cp, m1, m2, m3, m4, m5, (r3.block b m6.lt fun q => ?_).trans m6⟩⟩
      have q' : b = g := q
      subst q'
      have := m6.symm.trans hr
      simp at this
end Go.Proofs.YtdfnehngffajiabDoor
