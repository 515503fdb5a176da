/-
  Long3: long division in numbers: the state behind each digit.
-/
import Derived.Test.YtdfnehngffajiabDoorQMulwToGuess
namespace Go.Proofs.YtdfnehngffajiabDoor
open Go.RowKit
set_option linter.unusedVariables false

theorem val_cut {zs : List Int} {j : Nat} (hj : j ≤ zs.length) : val zs = val (zs.take j) + pw j * val (zs.drop j) := by
  have h := val_append (zs.take j) (zs.drop j)
  rw [List.take_append_drop, show (zs.take j).length = j by simp; omega] at h
  exact h
theorem WF.dropped {xs : List Int} (h : WF xs) (n : Nat) : WF (xs.drop n) := fun x hx => h x (List.mem_of_mem_drop hx)
theorem split_eq {zs zs1 : List Int} {j : Nat} {X : Int} (h : WF zs) (h1 : WF zs1) (hl : zs1.length = zs.length) (hj : j ≤ zs.length) (he : val zs1 = val zs + pw j * X) : val (zs1.drop j) = val (zs.drop j) + X := by
  rw [val_cut hj, val_cut (zs := zs1) (j := j) (by omega)] at he
  have a1 := val_lt_pw (h.take j)
  have a2 := val_lt_pw (h1.take j)
  rw [show (zs.take j).length = j by simp; omega] at a1
  rw [show (zs1.take j).length = j by simp; omega] at a2
  have b1 := val_nonneg (h.take j)
  have b2 := val_nonneg (h1.take j)
  generalize val (zs.take j) = a at *
  generalize val (zs1.take j) = b at *
  generalize val (zs.drop j) = A at *
  generalize val (zs1.drop j) = B at *
  generalize pw j = P at *
  have e : P * (B - A - X) = a - b := by rw [Int.mul_sub, Int.mul_sub]; omega
  rcases Int.lt_trichotomy (B - A - X) 0 with q | q | q
  · have := Int.mul_le_mul_of_nonneg_left (show B - A - X ≤ -1 by omega) (show 0 ≤ P by omega)
    rw [Int.mul_neg, Int.mul_one] at this
    omega
  · omega
  · have := Int.mul_le_mul_of_nonneg_left (show 1 ≤ B - A - X by omega) (show 0 ≤ P by omega)
    rw [Int.mul_one] at this
    omega
theorem top_zero {zs : List Int} {n : Nat} (h : WF zs) (hn : n ≤ zs.length) (hv : val zs < pw n) : val (zs.drop n) = 0 := by
  rw [val_cut hn] at hv
  have b1 := val_nonneg (h.take n)
  have b2 := val_nonneg (h.dropped n)
  have hP := pw_pos n
  generalize val (zs.take n) = a at *
  generalize val (zs.drop n) = A at *
  generalize pw n = P at *
  by_cases q : A = 0
  · exact q
  · have := Int.mul_le_mul_of_nonneg_left (show 1 ≤ A by omega) (show 0 ≤ P by omega)
    rw [Int.mul_one] at this
    omega

/-- What is left of zs0 when the digits from k on are found. -/
def LongAt (zs0 bs qs zs : List Int) (k : Nat) : Prop :=
  zs.length = zs0.length ∧ WF zs ∧ qs.length + bs.length = zs0.length ∧ WF qs ∧ (∀ i (h : i < qs.length), i < k → qs[i] = 0) ∧ val zs0 = val qs * val bs + val zs ∧ val (zs.drop k) < val bs
/-- D times bs is taken off at the place j, c borrowed. -/
def DigitAt (zs bs zs1 : List Int) (j : Nat) (D c : Int) : Prop :=
  zs1.length = zs.length ∧ WF zs1 ∧ val zs1 - pw (j + bs.length + 1) * c = val zs - pw j * (val bs * D) ∧ zs1.drop (j + bs.length + 1) = zs.drop (j + bs.length + 1) ∧ val (zs.drop j) < (D + 1) * val bs ∧ IsW D

theorem LongAt.above {zs0 bs qs zs : List Int} {j : Nat} (h : LongAt zs0 bs qs zs (j + 1)) (hb : WF bs) (hj : j < qs.length) : val (zs.drop (j + bs.length + 1)) = 0 := by
  obtain ⟨h1, h2, h3, h4, h5, h6, h7⟩ := h
  have := top_zero (h2.dropped (j + 1)) (n := bs.length) (by rw [List.length_drop]; omega) (Int.lt_trans h7 (val_lt_pw hb))
  rw [List.drop_drop] at this
  rw [show j + bs.length + 1 = j + 1 + bs.length by omega]
  exact this
theorem LongAt.part {zs0 bs qs zs : List Int} {j : Nat} (h : LongAt zs0 bs qs zs (j + 1)) (hb : WF bs) (hj : j < qs.length) : val ((zs.drop j).take (bs.length + 1)) = val (zs.drop j) := by
  have ha := h.above hb hj
  obtain ⟨h1, h2, h3, h4, h5, h6, h7⟩ := h
  have := val_cut (zs := zs.drop j) (j := bs.length + 1) (by rw [List.length_drop]; omega)
  rw [List.drop_drop, ← Nat.add_assoc, ha, Int.mul_zero, Int.add_zero] at this
  exact this.symm
theorem LongAt.small {zs0 bs qs zs : List Int} {j : Nat} (h : LongAt zs0 bs qs zs (j + 1)) (hj : j < qs.length) : val (zs.drop j) < wB * val bs := by
  obtain ⟨h1, h2, h3, h4, h5, h6, h7⟩ := h
  have hz : j < zs.length := by omega
  rw [List.drop_eq_getElem_cons hz]
  have hw := h2.get hz
  show zs[j] + wB * val (zs.drop (j + 1)) < _
  unfold IsW wB at *
  omega
theorem DigitAt.first {zs0 bs qs zs zs1 : List Int} {j : Nat} {D c : Int} (h : LongAt zs0 bs qs zs (j + 1)) (hl : zs1.length = zs.length) (hw : WF zs1) (hv : val zs1 - pw (j + bs.length + 1) * c = val zs - pw j * (val bs * D)) (hd : zs1.drop (j + bs.length + 1) = zs.drop (j + bs.length + 1))
    (hg : val (zs.drop j) < (D + 1) * val bs) (hD : IsW D) : DigitAt zs bs zs1 j D c := ⟨hl, hw, hv, hd, hg, hD⟩
theorem DigitAt.one {zs0 bs qs zs zs1 : List Int} {j : Nat} {D c : Int} (hL : LongAt zs0 bs qs zs (j + 1)) (hb : WF bs) (hj : j < qs.length) (h : DigitAt zs bs zs1 j D c) :
    val (zs1.drop j) - pw (bs.length + 1) * c = val (zs.drop j) - D * val bs ∧ val (zs1.drop j) < pw (bs.length + 1) ∧ 0 ≤ val (zs1.drop j) := by
  have ha := hL.above hb hj
  obtain ⟨h1, h2, h3, h4, h5, h6, h7⟩ := hL
  obtain ⟨d1, d2, d3, d4, d5, d6⟩ := h
  refine ⟨?_, ?_, val_nonneg (d2.dropped j)⟩
  · have := split_eq (j := j) (X := pw (bs.length + 1) * c - val bs * D) h2 d2 d1 (by omega) (by
      rw [Nat.add_assoc, pw_add] at d3
      rw [Int.mul_sub, ← Int.mul_assoc]; omega)
    rw [this, Int.mul_comm D]; omega
  · have e := val_cut (zs := zs1.drop j) (j := bs.length + 1) (by rw [List.length_drop]; omega)
    rw [List.drop_drop, ← Nat.add_assoc, d4, ha, Int.mul_zero, Int.add_zero] at e
    rw [e]
    have := val_lt_pw ((d2.dropped j).take (bs.length + 1))
    rwa [show ((zs1.drop j).take (bs.length + 1)).length = bs.length + 1 by rw [List.length_take, List.length_drop]; omega] at this
theorem DigitAt.over {zs0 bs qs zs zs1 : List Int} {j : Nat} {D : Int} (hL : LongAt zs0 bs qs zs (j + 1)) (hb : WF bs) (hj : j < qs.length) (h : DigitAt zs bs zs1 j D 1) : val (zs.drop j) < D * val bs ∧ 1 ≤ D := by
  obtain ⟨e1, e2, e3⟩ := h.one hL hb hj
  have e4 : val (zs.drop j) < D * val bs := by omega
  refine ⟨e4, ?_⟩
  have e5 := val_nonneg (hL.2.1.dropped j)
  have e6 := h.2.2.2.2.2.1
  by_cases q : D = 0
  · subst q; omega
  · omega
theorem DigitAt.step {zs0 bs qs zs zs1 zs2 : List Int} {j : Nat} {D c : Int} (hL : LongAt zs0 bs qs zs (j + 1)) (hb : WF bs) (hj : j < qs.length) (h : DigitAt zs bs zs1 j D 1) (hl : zs2.length = zs1.length) (hw : WF zs2)
    (hv : val zs2 + pw (j + bs.length + 1) * c = val zs1 + pw j * val bs) (hd : zs2.drop (j + bs.length + 1) = zs1.drop (j + bs.length + 1)) : DigitAt zs bs zs2 j (D - 1) (1 - c) := by
  obtain ⟨e4, e5⟩ := h.over hL hb hj
  obtain ⟨d1, d2, d3, d4, d5, d6⟩ := h
  refine ⟨hl.trans d1, hw, ?_, hd.trans d4, by rw [Int.sub_add_cancel]; exact e4, by unfold IsW wB at *; omega⟩
  rw [Int.mul_sub, Int.mul_one, Int.mul_sub, Int.mul_one, Int.mul_sub]
  omega
theorem LongAt.next {zs0 bs qs zs zs1 : List Int} {j : Nat} {D : Int} (hL : LongAt zs0 bs qs zs (j + 1)) (hb : WF bs) (hj : j < qs.length) (h : DigitAt zs bs zs1 j D 0) : LongAt zs0 bs (qs.set j D) zs1 j := by
  obtain ⟨e1, e2, e3⟩ := h.one hL hb hj
  obtain ⟨h1, h2, h3, h4, h5, h6, h7⟩ := hL
  obtain ⟨d1, d2, d3, d4, d5, d6⟩ := h
  refine ⟨d1.trans h1, d2, by rw [List.length_set]; exact h3, h4.set j d6, fun i hi hij => ?_, ?_, ?_⟩
  · rw [List.getElem_set_ne (by omega)]; exact h5 i (by simpa using hi) (by omega)
  · rw [val_set qs j D hj, h5 j hj (by omega), Int.sub_zero, Int.add_mul, h6]
    rw [Int.mul_zero, Int.sub_zero] at d3
    rw [d3]
    have : D * pw j * val bs = pw j * (val bs * D) := by rw [Int.mul_comm D, Int.mul_assoc, Int.mul_comm D]
    omega
  · rw [Int.add_mul, Int.one_mul] at d5
    omega
theorem LongAt.start {zs0 bs : List Int} {m : Nat} (h : WF zs0) (hl : m + bs.length = zs0.length) (hv : val (zs0.drop m) < val bs) : LongAt zs0 bs (List.replicate m 0) zs0 m := by
  have hz : WF (List.replicate m 0) := fun x hx => by rw [List.eq_of_mem_replicate hx]; unfold IsW wB; omega
  refine ⟨rfl, h, by simpa using hl, hz, fun i hi _ => by simp, ?_, hv⟩
  have : val (List.replicate m 0) = 0 := by rw [val_vn hz, vn_zeros (fun x hx => List.eq_of_mem_replicate hx)]; rfl
  rw [this]; omega
end Go.Proofs.YtdfnehngffajiabDoor
