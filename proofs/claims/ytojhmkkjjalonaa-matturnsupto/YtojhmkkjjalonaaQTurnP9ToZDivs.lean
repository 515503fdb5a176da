/-
  QTurnP9ToZDivs: TurnP9, ZFloor, ZEuclid, ZMod, ZDivs, joined.
-/
import Derived.Test.YtojhmkkjjalonaaQTrace9
import Derived.Test.YtojhmkkjjalonaaQExact0ToZStore
import Derived.Test.YtojhmkkjjalonaaQFil9ToTail
import Derived.Test.YtojhmkkjjalonaaQCells6ToZlaw0

/- TurnP9 -/
namespace Go.Proofs.Ytojhmkkjjalonaa
set_option linter.unusedVariables false

theorem turn_at {r c i j : Nat} {zs : List Int} (hi : i < r) (hj : j < c) : (turnL9 r c zs).getD (j * r + i) 0 = zs.getD (i * c + j) 0 := by
  unfold turnL9
  rw [flat_getD hi cols_len (by simp [colsL]; exact hj)]
  have e1 : (colsL r c zs 0).getD j [] = colL c zs 0 r j := by simp [colsL, hj]
  rw [e1]
  simp [colL, hi]
theorem turn_turn {r c : Nat} {zs : List Int} (hl : zs.length = r * c) : turnL9 c r (turnL9 r c zs) = zs := by
  refine mat_ext (r := r) (c := c) turnL9_length hl (fun i j hi hj => ?_)
  rw [turn_at hj hi, turn_at hi hj]
theorem turn_prod {r m c : Nat} {xs ys : List Int} (hx : xs.length = r * m) : turnL9 r c (prodL r m c xs ys) = prodL c m r (turnL9 m c ys) (turnL9 r m xs) := by
  refine mat_ext (r := c) (c := r) turnL9_length prodL_length (fun j i hj hi => ?_)
  rw [turn_at hi hj, prod_at hx hi hj, prod_at turnL9_length hj hi]
  refine sumN_congr (fun t ht => ?_)
  rw [turn_at ht hj, turn_at hi ht, Int.mul_comm]
theorem trace_sum {n : Nat} {zs : List Int} : traceL n zs = sumN n (fun t => zs.getD (t * n + t) 0) := rfl
theorem trace_prod {r m : Nat} {xs ys : List Int} (hx : xs.length = r * m) (hy : ys.length = m * r) : traceL r (prodL r m r xs ys) = traceL m (prodL m r m ys xs) := by
  rw [trace_sum, trace_sum, sumN_congr (fun i hi => prod_at hx hi hi), sumN_congr (fun t ht => prod_at hy ht ht), sumN_swap]
  exact sumN_congr (fun t _ => sumN_congr (fun i _ => Int.mul_comm _ _))
end Go.Proofs.Ytojhmkkjjalonaa

/- ZFloor -/
namespace Go.Proofs.Ytojhmkkjjalonaa
open Go.RowKit
set_option linter.unusedVariables false

theorem Duo.drew {w : World} {b : Nat} {x y : Value} (h : Duo w b x y) : Duo w.drew b x y := h
theorem gz2_drew {E : Int} {w W : World} {q r : Int} {k l : Nat} {e : Ending} (h : GivesZ2 E w q r k l e W) : GivesZ2 E w q r k l e W.drew := by
  obtain ⟨rq, rr, h1, h2, h3, h4⟩ := h
  exact ⟨rq, rr, h1, h2.now (Below.refl _ _).drew, h3.now (Below.refl _ _).drew, h4.drew⟩

end Go.Proofs.Ytojhmkkjjalonaa

/- ZEuclid -/
namespace Go.Proofs.Ytojhmkkjjalonaa
open Go.RowKit
set_option linter.unusedVariables false

end Go.Proofs.Ytojhmkkjjalonaa

/- ZMod -/
namespace Go.Proofs.Ytojhmkkjjalonaa
open Go.RowKit
set_option linter.unusedVariables false

theorem euclid_bits {z y : Int} (hy : y ≠ 0) : (z.tmod y < 0 → z.tmod y + (y.natAbs : Int) = z % y) ∧ (¬ z.tmod y < 0 → z.tmod y = z % y) := by
  have h1 := Int.tmod_eq_emod (a := z) (b := y)
  have h2 := Int.emod_nonneg z hy
  have h3 : z % y < (y.natAbs : Int) := by
    by_cases h : 0 < y
    · have := Int.emod_lt_of_pos z h
      omega
    · have := Int.emod_lt_of_pos z (b := -y) (by omega)
      rw [Int.emod_neg] at this
      omega
  split at h1 <;> constructor <;> intro h <;> omega
/-- The residue that is nearest to 0. -/
def symv (z y : Int) : Int := if (y.natAbs : Int) < ((z % y + z % y).natAbs : Int) then z % y - (y.natAbs : Int) else z % y
end Go.Proofs.Ytojhmkkjjalonaa

/- ZDivs -/
namespace Go.Proofs.Ytojhmkkjjalonaa
open Go.RowKit
set_option linter.unusedVariables false

theorem alloc1 (w : World) (o1 : Obj) : Below w.heap.size w (w.alloc o1) ∧ (w.alloc o1).heap.size = w.heap.size + 1 := ⟨(Below.refl _ _).alloc (Nat.le_refl _) _, by simp⟩
def fdv (z y : Int) : Int := if cmpI (z.tmod y) 0 * cmpI y 0 < 0 then z.tdiv y - 1 else z.tdiv y
def fmd (z y : Int) : Int := if cmpI (z.tmod y) 0 * cmpI y 0 < 0 then z.tmod y + y else z.tmod y
def edv (z y : Int) : Int := if cmpI (z.tmod y) 0 < 0 then z.tdiv y - cmpI y 0 else z.tdiv y
theorem tmod_small {z y : Int} (hy : y ≠ 0) : ((z.tmod y).natAbs : Int) < (y.natAbs : Int) ∧ (0 ≤ z → 0 ≤ z.tmod y) ∧ (z ≤ 0 → z.tmod y ≤ 0) ∧ z.tdiv y * y + z.tmod y = z := by
  have h0 : z.tdiv y * y + z.tmod y = z := by rw [Int.mul_comm]; exact Int.mul_tdiv_add_tmod z y
  have h1 := Int.tmod_eq_emod (a := z) (b := y)
  have h2 := Int.emod_nonneg z hy
  have h3 : z % y < (y.natAbs : Int) := by
    by_cases h : 0 < y
    · have := Int.emod_lt_of_pos z h
      omega
    · have := Int.emod_lt_of_pos z (b := -y) (by omega)
      rw [Int.emod_neg] at this
      omega
  have h4 : 0 ≤ z → 0 ≤ z.tmod y := fun h => by
    rw [if_pos (.inl h)] at h1
    omega
  have h5 : z ≤ 0 → z.tmod y ≤ 0 := fun h => by
    have h6 := Int.tmod_eq_emod (a := -z) (b := y)
    rw [if_pos (.inl (by omega)), Int.neg_tmod] at h6
    have h7 := Int.emod_nonneg (-z) hy
    omega
  refine ⟨?_, h4, h5, h0⟩
  by_cases h : 0 ≤ z
  · rw [if_pos (.inl h)] at h1
    omega
  · have h6 := Int.tmod_eq_emod (a := -z) (b := y)
    rw [if_pos (.inl (by omega)), Int.neg_tmod] at h6
    have h7 := Int.emod_nonneg (-z) hy
    have h8 : (-z) % y < (y.natAbs : Int) := by
      by_cases h : 0 < y
      · have := Int.emod_lt_of_pos (-z) h
        omega
      · have := Int.emod_lt_of_pos (-z) (b := -y) (by omega)
        rw [Int.emod_neg] at this
        omega
    omega
/-- All that the law asks of the three divisions. -/
structure Divs (A B : Int) : Prop where
  t1 : A.tdiv B * B + A.tmod B = A
  t2 : ((A.tmod B).natAbs : Int) < (B.natAbs : Int)
  t3 : ¬ cmpI (A.tmod B) 0 * cmpI A 0 < 0
  f1 : fdv A B * B + fmd A B = A
  f2 : ((fmd A B).natAbs : Int) < (B.natAbs : Int)
  f3 : ¬ cmpI (fmd A B) 0 * cmpI B 0 < 0
  e1 : edv A B * B + A % B = A
  e2 : 0 ≤ A % B ∧ A % B < (B.natAbs : Int)
  n1 : A.tmod B ≠ 0 → fmd A B ≠ 0 ∧ A % B ≠ 0
  n2 : A.tmod B = 0 → fdv A B = A.tdiv B ∧ edv A B = A.tdiv B
theorem sign_cases (x : Int) : (x < 0 ∧ cmpI x 0 = -1) ∨ (x = 0 ∧ cmpI x 0 = 0) ∨ (0 < x ∧ cmpI x 0 = 1) := cmp_cases x 0
theorem sgn_prod (R B : Int) : cmpI R 0 * cmpI B 0 < 0 ↔ ((R < 0 ∧ 0 < B) ∨ (0 < R ∧ B < 0)) := by
  rcases sign_cases R with ⟨r1, r2⟩ | ⟨r1, r2⟩ | ⟨r1, r2⟩ <;> rcases sign_cases B with ⟨b1, b2⟩ | ⟨b1, b2⟩ | ⟨b1, b2⟩ <;> rw [r2, b2] <;> omega
theorem sgn_abs (B : Int) : cmpI B 0 * B = (B.natAbs : Int) := by
  rcases sign_cases B with ⟨b1, b2⟩ | ⟨b1, b2⟩ | ⟨b1, b2⟩ <;> rw [b2] <;> omega
theorem sgn_neg (R : Int) : cmpI R 0 < 0 ↔ R < 0 := by
  rcases sign_cases R with ⟨r1, r2⟩ | ⟨r1, r2⟩ | ⟨r1, r2⟩ <;> rw [r2] <;> omega
theorem divs {A B : Int} (hB : B ≠ 0) : Divs A B := by
  obtain ⟨h1, h2, h3, h4⟩ := tmod_small (z := A) hB
  obtain ⟨h5, h5'⟩ := euclid_bits (z := A) hB
  have h6 := Int.emod_nonneg A hB
  have hs := sgn_abs B
  refine ⟨h4, h1, ?_, ?_, ?_, ?_, ?_, ⟨h6, ?_⟩, ?_, ?_⟩
  · rw [sgn_prod]; omega
  · unfold fdv fmd
    split
    · rw [Int.sub_mul]; omega
    · exact h4
  · unfold fmd
    split
    · rename_i h
      rw [sgn_prod] at h
      omega
    · exact h1
  · rw [sgn_prod]
    unfold fmd
    split <;> rename_i h <;> rw [sgn_prod] at h <;> omega
  · unfold edv
    split <;> rename_i h <;> rw [sgn_neg] at h
    · rw [Int.sub_mul, hs, ← h5 h]; omega
    · rw [← h5' h]; exact h4
  · by_cases h : A.tmod B < 0
    · rw [← h5 h]; omega
    · rw [← h5' h]; omega
  · intro hR
    refine ⟨?_, ?_⟩
    · unfold fmd
      split
      · omega
      · exact hR
    · by_cases h : A.tmod B < 0
      · rw [← h5 h]; omega
      · rw [← h5' h]; exact hR
  · intro hR
    refine ⟨?_, ?_⟩
    · unfold fdv
      rw [if_neg]
      rw [sgn_prod]; omega
    · unfold edv
      rw [if_neg]
      rw [sgn_neg]; omega

end Go.Proofs.Ytojhmkkjjalonaa
