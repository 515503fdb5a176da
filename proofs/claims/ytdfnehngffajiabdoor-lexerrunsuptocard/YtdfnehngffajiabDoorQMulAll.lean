/-
  MulAll: the contract of Mul.
-/
import Derived.Test.YtdfnehngffajiabDoorQMul
namespace Go.Proofs.YtdfnehngffajiabDoor
open Go.RowKit
set_option linter.unusedVariables false

theorem MulOk.less {M N : Nat} (h : MulOk N) (hM : M ≤ N) : MulOk M := fun w v u xs ys h1 h2 h3 h4 => h w v u xs ys h1 h2 h3 (by omega)
theorem Makes.as {w w' : World} {s t : Int} {e : Ending} (h : Makes w s e w') (hst : s = t) : Makes w t e w' := by subst hst; exact h

set_option maxHeartbeats 6400000 in
theorem mul_step {w : World} {va vb : Value} {xs ys : List Int} (ha : Sl w.heap.size w va xs) (hb : Sl w.heap.size w vb ys) (hl : xs.length + ys.length ≤ 35184372088832) (IH : MulOk (xs.length + ys.length)) :
    Calls Tryd.prog 48 #[va, vb] w (Makes w (val xs * val ys)) := by
  obtain ⟨a, ca, rfl⟩ : ∃ a ca, va = .slice a xs.length ca := by obtain ⟨_, a, ca, e, _⟩ := ha; exact ⟨a, ca, e⟩
  obtain ⟨b, cb, rfl⟩ : ∃ b cb, vb = .slice b ys.length cb := by obtain ⟨_, b, cb, e, _⟩ := hb; exact ⟨b, cb, e⟩
  have HT1 := hid (trimmed_any ha)
  have HT2 := hid (trimmed_any hb)
  have l1 := wid_le xs
  have l2 := wid_le ys
  have SX := hid (ha.taken l1)
  have SY := hid (hb.taken l2)
  change Hid (Sl w.heap.size w _ (lst xs)) at SX
  change Hid (Sl w.heap.size w _ (lst ys)) at SY
  have CX := hid (canon_lst ha.1)
  have CY := hid (canon_lst hb.1)
  have LX := hid (length_lst xs)
  have LY := hid (length_lst ys)
  have IH' := hid (IH.less (show wid xs + wid ys ≤ xs.length + ys.length by omega))
  rw [← val_lst xs, ← val_lst ys]
  have hl2 : wid xs + wid ys ≤ 35184372088832 := by omega
  generalize lst xs = X at *
  generalize lst ys = Y at *
  generalize wid xs = n at *
  generalize wid ys = m at *
  clear IH ha hb hl
  by_cases hlt : n < m
  · skip
    have hh : ((m : Int) + 1) / 2 = (((m + 1) / 2 : Nat) : Int) := by omega
    have hg1 : 2 * ((m + 1) / 2) ≤ m + 1 ∧ m ≤ 2 * ((m + 1) / 2) := by omega
    generalize (m + 1) / 2 = h at *
    by_cases h0 : n = 0
    · have hz : ((n : Int) == 0) = true := by rw [beq_iff_eq]; omega
      go_enter Tryd.func48, Tryd.ntmps48
      go_wp2_with fail
      refine HT1.out.mono ?_
      rintro e w1 ⟨rfl, rfl⟩
      go_wp2_with fail
      refine HT2.out.mono ?_
      rintro e w1 ⟨rfl, rfl⟩
      have h00 := hid h0
      clear h0
      go_wp2
      go_ret
      refine ⟨[], _, rfl, Mine.nil _ _, canon_nil, ?_, Below.refl _ _⟩
      have e0 : X = [] := List.eq_nil_of_length_eq_zero (by rw [LX.out]; exact h00.out)
      rw [e0]
      simp [val]
    · have hz : ((n : Int) == 0) = false := by rw [beq_eq_false_iff_ne]; omega
      have hne : Hid (X ≠ []) := by intro q; have := LX.out; rw [q] at this; simp at this; omega
      by_cases h64 : n < 64
      · skip
        go_enter Tryd.func48, Tryd.ntmps48
        go_wp2_with fail
        refine HT1.out.mono ?_
        rintro e w1 ⟨rfl, rfl⟩
        go_wp2_with fail
        refine HT2.out.mono ?_
        rintro e w1 ⟨rfl, rfl⟩
        go_wp2_with fail
        refine (byWord_any SY.out SX.out (by rw [LY.out, LX.out]; omega)).mono ?_
        rintro e w2 hm
        obtain ⟨zs, r, rfl, m1, m2, m3, m4⟩ := hm
        go_wp2
        go_ret
        exact Makes.as ⟨zs, r, rfl, m1, m2, m3, m4⟩ (Int.mul_comm _ _)
      · by_cases hle : n ≤ h
        · skip
          go_enter Tryd.func48, Tryd.ntmps48
          go_wp2_with fail
          refine HT1.out.mono ?_
          rintro e w1 ⟨rfl, rfl⟩
          go_wp2_with fail
          refine HT2.out.mono ?_
          rintro e w1 ⟨rfl, rfl⟩
          go_wp2_with fail
          refine (byTwo_any SY.out SX.out CY.out CX.out (by rw [LY.out, LX.out]; omega) (by omega) (by rw [LY.out]; omega) hne.out (IH'.out.less (by rw [LY.out, LX.out]; omega))).mono ?_
          rintro e w2 hm
          obtain ⟨zs, r, rfl, m1, m2, m3, m4⟩ := hm
          go_wp2
          go_ret
          exact Makes.as ⟨zs, r, rfl, m1, m2, m3, m4⟩ (Int.mul_comm _ _)
        · skip
          go_enter Tryd.func48, Tryd.ntmps48
          go_wp2_with fail
          refine HT1.out.mono ?_
          rintro e w1 ⟨rfl, rfl⟩
          go_wp2_with fail
          refine HT2.out.mono ?_
          rintro e w1 ⟨rfl, rfl⟩
          go_wp2_with fail
          refine (byFour_any SY.out SX.out CY.out CX.out (by rw [LY.out, LX.out]; omega) (by omega) (by rw [LY.out]; omega) (by rw [LX.out]; omega) (by rw [LY.out]; omega) (by rw [LY.out]; omega) (by rw [LX.out]; omega) (by rw [LX.out, LY.out]; omega) (IH'.out.less (by rw [LY.out, LX.out]; omega))).mono ?_
          rintro e w2 hm
          obtain ⟨zs, r, rfl, m1, m2, m3, m4⟩ := hm
          go_wp2
          go_ret
          exact Makes.as ⟨zs, r, rfl, m1, m2, m3, m4⟩ (Int.mul_comm _ _)
  · skip
    have hh : ((n : Int) + 1) / 2 = (((n + 1) / 2 : Nat) : Int) := by omega
    have hg1 : 2 * ((n + 1) / 2) ≤ n + 1 ∧ n ≤ 2 * ((n + 1) / 2) := by omega
    generalize (n + 1) / 2 = h at *
    by_cases h0 : m = 0
    · have hz : ((m : Int) == 0) = true := by rw [beq_iff_eq]; omega
      go_enter Tryd.func48, Tryd.ntmps48
      go_wp2_with fail
      refine HT1.out.mono ?_
      rintro e w1 ⟨rfl, rfl⟩
      go_wp2_with fail
      refine HT2.out.mono ?_
      rintro e w1 ⟨rfl, rfl⟩
      have h00 := hid h0
      clear h0
      go_wp2
      go_ret
      refine ⟨[], _, rfl, Mine.nil _ _, canon_nil, ?_, Below.refl _ _⟩
      have e0 : Y = [] := List.eq_nil_of_length_eq_zero (by rw [LY.out]; exact h00.out)
      rw [e0]
      simp [val]
    · have hz : ((m : Int) == 0) = false := by rw [beq_eq_false_iff_ne]; omega
      have hne : Hid (Y ≠ []) := by intro q; have := LY.out; rw [q] at this; simp at this; omega
      by_cases h64 : m < 64
      · skip
        go_enter Tryd.func48, Tryd.ntmps48
        go_wp2_with fail
        refine HT1.out.mono ?_
        rintro e w1 ⟨rfl, rfl⟩
        go_wp2_with fail
        refine HT2.out.mono ?_
        rintro e w1 ⟨rfl, rfl⟩
        go_wp2_with fail
        refine (byWord_any SX.out SY.out (by rw [LX.out, LY.out]; omega)).mono ?_
        rintro e w2 hm
        obtain ⟨zs, r, rfl, m1, m2, m3, m4⟩ := hm
        go_wp2
        go_ret
        exact Makes.as ⟨zs, r, rfl, m1, m2, m3, m4⟩ (rfl)
      · by_cases hle : m ≤ h
        · skip
          go_enter Tryd.func48, Tryd.ntmps48
          go_wp2_with fail
          refine HT1.out.mono ?_
          rintro e w1 ⟨rfl, rfl⟩
          go_wp2_with fail
          refine HT2.out.mono ?_
          rintro e w1 ⟨rfl, rfl⟩
          go_wp2_with fail
          refine (byTwo_any SX.out SY.out CX.out CY.out (by rw [LX.out, LY.out]; omega) (by omega) (by rw [LX.out]; omega) hne.out (IH'.out.less (by rw [LX.out, LY.out]; exact Nat.le_refl _))).mono ?_
          rintro e w2 hm
          obtain ⟨zs, r, rfl, m1, m2, m3, m4⟩ := hm
          go_wp2
          go_ret
          exact Makes.as ⟨zs, r, rfl, m1, m2, m3, m4⟩ (rfl)
        · skip
          go_enter Tryd.func48, Tryd.ntmps48
          go_wp2_with fail
          refine HT1.out.mono ?_
          rintro e w1 ⟨rfl, rfl⟩
          go_wp2_with fail
          refine HT2.out.mono ?_
          rintro e w1 ⟨rfl, rfl⟩
          go_wp2_with fail
          refine (byFour_any SX.out SY.out CX.out CY.out (by rw [LX.out, LY.out]; omega) (by omega) (by rw [LX.out]; omega) (by rw [LY.out]; omega) (by rw [LX.out]; omega) (by rw [LX.out]; omega) (by rw [LY.out]; omega) (by rw [LY.out, LX.out]; omega) (IH'.out.less (by rw [LX.out, LY.out]; exact Nat.le_refl _))).mono ?_
          rintro e w2 hm
          obtain ⟨zs, r, rfl, m1, m2, m3, m4⟩ := hm
          go_wp2
          go_ret
          exact Makes.as ⟨zs, r, rfl, m1, m2, m3, m4⟩ (rfl)

theorem mul_ok : ∀ N, MulOk N
  | 0 => fun w v u xs ys _ _ _ h => absurd h (Nat.not_lt_zero _)
  | N + 1 => fun w v u xs ys h1 h2 h3 h4 => mul_step h1 h2 h3 ((mul_ok N).less (by omega))
theorem mul_any {w : World} {va vb : Value} {xs ys : List Int} (ha : Sl w.heap.size w va xs) (hb : Sl w.heap.size w vb ys) (hl : xs.length + ys.length ≤ 35184372088832) :
    Calls Tryd.prog 48 #[va, vb] w (Makes w (val xs * val ys)) := mul_ok _ w va vb xs ys ha hb hl (Nat.lt_succ_self _)
/-- What comes out, as the laws want it. -/
def Gives (w : World) (s : Int) (k : Nat) (e : Ending) (w' : World) : Prop :=
  ∃ zs a cap, e = .returned (.slice a zs.length cap) ∧ Sl w'.heap.size w' (.slice a zs.length cap) zs ∧ Canon zs ∧ val zs = s ∧ zs.length ≤ k ∧ Below w.heap.size w w'
theorem Makes.gives {w w' : World} {s : Int} {k : Nat} {e : Ending} (h : Makes w s e w') (hs : s < pw k) : Gives w s k e w' := by
  obtain ⟨zs, r, rfl, m1, m2, m3, m4⟩ := h
  obtain ⟨a, cap, rfl⟩ := m1.form
  exact ⟨zs, a, cap, rfl, m1.sl, m2, m3, canon_len m2 (by rw [m3]; exact hs), m4⟩
theorem mul_now {w : World} {va vb : Value} {xs ys : List Int} (ha : Sl w.heap.size w va xs) (hb : Sl w.heap.size w vb ys) (hl : xs.length + ys.length ≤ 35184372088832) :
    Calls Tryd.prog 48 #[va, vb] w (Gives w (val xs * val ys) (xs.length + ys.length)) := (mul_any ha hb hl).mono fun _ _ h => h.gives (val_mul_lt ha.1 hb.1)
end Go.Proofs.YtdfnehngffajiabDoor
