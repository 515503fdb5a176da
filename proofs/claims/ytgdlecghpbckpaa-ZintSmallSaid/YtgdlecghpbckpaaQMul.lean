/-
  Mul: the contracts of byTwoHalves, byFourHalves and Mul.
-/
import Derived.Test.YtgdlecghpbckpaaQCut
import Derived.Test.YtgdlecghpbckpaaQNow
namespace Go.Proofs.Ytgdlecghpbckpaa
open Go.RowKit
set_option linter.unusedVariables false

theorem val_halves_any (xs : List Int) (n : Nat) : val xs = val (xs.take n) + pw n * val (xs.drop n) := by
  by_cases h : n ≤ xs.length
  · exact val_halves xs h
  · rw [List.take_of_length_le (by omega), List.drop_of_length_le (by omega)]
    simp [val]
theorem high_lt {l S : Int} {n N : Nat} (h : l + pw n * S < pw (n + N)) (hl : 0 ≤ l) : S < pw N := by
  rw [pw_plus] at h
  exact Int.lt_of_mul_lt_mul_left (show pw n * S < pw n * pw N by omega) (Int.le_of_lt (pw_pos n))
theorem prod_len {xs ys zs : List Int} (hx : WF xs) (hy : WF ys) (hz : Canon zs) (h : val zs = val xs * val ys) : zs.length ≤ xs.length + ys.length :=
  canon_len hz (by rw [h]; exact val_mul_lt hx hy)
theorem mine_row {B : Nat} {w : World} {g k : Nat} {zs : List Int} (hB : B ≤ g) (hw : WF zs) (hk : zs.length = k) (hl : k ≤ 35184372088832) (hr : Row w g (ws zs)) : Mine B w (.slice (some ⟨g, 0, none⟩) k k) zs := by
  subst hk
  exact ⟨hw, .inr ⟨g, [], zs.length, hB, hl, Nat.le_refl _, by simp, rfl, by simpa using hr⟩⟩
theorem join_len (xs ys : List Int) {n : Nat} (h : xs.length ≤ n) : (xs ++ List.replicate (n - xs.length) 0 ++ ys).length = n + ys.length := by
  simp
  omega

/-- The end of byTwoHalves. -/
theorem two_end {xs ys P Q S : List Int} {n : Nat} (hx : Canon xs) (hy : Canon ys) (hn : n < xs.length) (hy0 : ys ≠ []) (hP : Canon P) (vP : val P = val (xs.take n) * val ys) (vQ : val Q = val (xs.drop n) * val ys) (hS : Canon S) (vS : val S = val Q + val (P.drop n)) :
    (P.take n).length ≤ n ∧ n + S.length ≤ xs.length + ys.length ∧ Canon (P.take n ++ List.replicate (n - (P.take n).length) 0 ++ S) ∧ val (P.take n ++ List.replicate (n - (P.take n).length) 0 ++ S) = val xs * val ys := by
  have hl : (P.take n).length ≤ n := by simp; omega
  have hj := val_join (P.take n) S hl
  have hv : val (P.take n) + pw n * val S = val xs * val ys := two_halves (n := n) (val_halves_any xs n) vP (val_halves_any P n) (by rw [vS, vQ]) rfl
  have hlt := val_mul_lt hx.1 hy.1
  rw [← hv] at hlt
  have h0 := val_nonneg (hP.1.take n)
  have hS0 : S ≠ [] := by
    refine canon_ne ?_
    have h1 : 0 < val (xs.drop n) := canon_pos (canon_drop n hx) (by intro e; have := congrArg List.length e; simp at this; omega)
    have h2 := canon_pos hy hy0
    have h3 := Int.mul_pos h1 h2
    have h4 := val_nonneg (hP.1.rest n)
    rw [vS, vQ]
    omega
  refine ⟨hl, ?_, canon_join n (hP.1.take n) hS hS0, by rw [hj, hv]⟩
  have h5 : xs.length + ys.length = n + (xs.length + ys.length - n) := by omega
  rw [h5] at hlt
  have := canon_len hS (high_lt hlt h0)
  omega

/-- The end of byFourHalves. -/
theorem four_end {xs ys LL HH SA SB SS T X Y Z : List Int} {n : Nat} (hx : Canon xs) (hy : Canon ys) (hn : n < xs.length) (hn' : n < ys.length)
    (hLL : Canon LL) (vLL : val LL = val (xs.take n) * val (ys.take n)) (hHH : Canon HH) (vHH : val HH = val (xs.drop n) * val (ys.drop n))
    (vSA : val SA = val (xs.take n) + val (xs.drop n)) (vSB : val SB = val (ys.take n) + val (ys.drop n)) (vSS : val SS = val SA * val SB) (vT : val T = val LL + val HH) (vX : val X = val SS - val T)
    (hY : Canon Y) (vY : val Y = val X + val (LL.drop n)) (hZ : Canon Z) (vZ : val Z = val HH + val (Y.drop n)) :
    (LL.take n).length ≤ n ∧ (Y.take n).length ≤ n ∧ n + (n + Z.length) ≤ xs.length + ys.length ∧
    Canon (LL.take n ++ List.replicate (n - (LL.take n).length) 0 ++ (Y.take n ++ List.replicate (n - (Y.take n).length) 0 ++ Z)) ∧
    val (LL.take n ++ List.replicate (n - (LL.take n).length) 0 ++ (Y.take n ++ List.replicate (n - (Y.take n).length) 0 ++ Z)) = val xs * val ys := by
  have hl : (LL.take n).length ≤ n := by simp; omega
  have hm : (Y.take n).length ≤ n := by simp; omega
  have hj1 := val_join (Y.take n) Z hm
  have hj := val_join (LL.take n) (Y.take n ++ List.replicate (n - (Y.take n).length) 0 ++ Z) hl
  rw [hj1] at hj
  have hv : val (LL.take n) + pw n * (val (Y.take n) + pw n * val Z) = val xs * val ys :=
    four_halves (n := n) (val_halves_any xs n) (val_halves_any ys n) vLL vHH vSA vSB vSS vT vX (val_halves_any LL n) vY (val_halves_any Y n) vZ rfl
  have hlt := val_mul_lt hx.1 hy.1
  rw [← hv] at hlt
  have h0 := val_nonneg (hLL.1.take n)
  have h0' := val_nonneg (hY.1.take n)
  have hZ0 : Z ≠ [] := by
    refine canon_ne ?_
    have h1 : 0 < val (xs.drop n) := canon_pos (canon_drop n hx) (by intro e; have := congrArg List.length e; simp at this; omega)
    have h2 : 0 < val (ys.drop n) := canon_pos (canon_drop n hy) (by intro e; have := congrArg List.length e; simp at this; omega)
    have h3 := Int.mul_pos h1 h2
    have h4 := val_nonneg (hY.1.rest n)
    rw [vZ, vHH]
    omega
  have c1 := canon_join n (hY.1.take n) hZ hZ0
  have c1' : Y.take n ++ List.replicate (n - (Y.take n).length) 0 ++ Z ≠ [] := by
    intro e
    exact hZ0 (List.append_eq_nil_iff.1 e).2
  refine ⟨hl, hm, ?_, canon_join n (hLL.1.take n) c1 c1', by rw [hj, hv]⟩
  have h5 : xs.length + ys.length = n + (n + (xs.length + ys.length - n - n)) := by omega
  rw [h5] at hlt
  have h6 := high_lt hlt h0
  have := canon_len hZ (high_lt h6 h0')
  omega

end Go.Proofs.Ytgdlecghpbckpaa
