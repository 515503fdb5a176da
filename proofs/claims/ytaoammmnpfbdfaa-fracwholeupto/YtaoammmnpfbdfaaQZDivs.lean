/-
  ZDivs: the three divisions in one form each; the law's within.
-/
import Derived.Test.YtaoammmnpfbdfaaQZModToZlaw0
namespace Go.Proofs.Ytaoammmnpfbdfaa
open Go.RowKit
set_option linter.unusedVariables false

theorem alloc1 (w : World) (o1 : Obj) : Below w.heap.size w (w.alloc o1) ∧ (w.alloc o1).heap.size = w.heap.size + 1 := ⟨(Below.refl _ _).alloc (Nat.le_refl _) _, by simp⟩
def fdv (z y : Int) : Int := if cmpI (z.tmod y) 0 * cmpI y 0 < 0 then z.tdiv y - 1 else z.tdiv y
def fmd (z y : Int) : Int := if cmpI (z.tmod y) 0 * cmpI y 0 < 0 then z.tmod y + y else z.tmod y
def edv (z y : Int) : Int := if cmpI (z.tmod y) 0 < 0 then z.tdiv y - cmpI y 0 else z.tdiv y
theorem floor_z {w : World} {v u : Value} {z y : Int} {k l : Nat} (h0 : Zi w v z k) (h1 : Zi w u y l) (hy : y ≠ 0) (hk : k ≤ 1099511627776) (hl : l ≤ 1099511627776) :
    Calls Try.prog 46 #[v, u] w (GivesZ2 0 w (fdv z y) (fmd z y) (max k 1 + 1) (max k l + 1)) := by
  unfold fdv fmd
  by_cases hs : cmpI (z.tmod y) 0 * cmpI y 0 < 0
  · rw [if_pos hs, if_pos hs]
    exact floor_neg h0 h1 hy hk hl hs
  · rw [if_neg hs, if_neg hs]
    exact (floor_pos h0 h1 hy hk hl hs).mono fun e w' ⟨rq, rr, q1, q2, q3, q4⟩ => ⟨rq, rr, q1, q2.more (by omega), q3.more (by omega), q4⟩
theorem euclid_z {w : World} {v u : Value} {z y : Int} {k l : Nat} (h0 : Zi w v z k) (h1 : Zi w u y l) (hy : y ≠ 0) (hk : k ≤ 1099511627776) (hl : l ≤ 1099511627776) :
    Calls Try.prog 48 #[v, u] w (GivesZ2 0 w (edv z y) (z % y) (max k 1 + 1) (max k l + 1)) := by
  unfold edv
  by_cases hs : z.tmod y < 0
  · have hc := cmpI_neg hs
    rw [if_pos hc, ← (euclid_bits hy).1 hs]
    exact euclid_neg h0 h1 hy hk hl hc
  · have hc := cmpI_nonneg (a := z.tmod y) (b := 0) (by omega)
    rw [if_neg hc, ← (euclid_bits hy).2 hs]
    exact (euclid_pos h0 h1 hy hk hl hc).mono fun e w' ⟨rq, rr, q1, q2, q3, q4⟩ => ⟨rq, rr, q1, q2.more (by omega), q3.more (by omega), q4⟩
theorem exact_none {w : World} {v u : Value} {z y : Int} {k l : Nat} (h0 : Zi w v z k) (h1 : Zi w u y l) (hy : y = 0) : Calls Try.prog 37 #[v, u] w (GivesZ1 4 w 0 k) :=
  (exact_zero_z h0 h1 hy).mono fun e w' ⟨h1, h2⟩ => ⟨_, h1, zm_nil _ _ _, h2⟩
theorem exact_yes {w : World} {v u : Value} {z y : Int} {k l : Nat} (h0 : Zi w v z k) (h1 : Zi w u y l) (hy : y ≠ 0) (hk : k ≤ 1099511627776) (hl : l ≤ 1099511627776) (hr : z.tmod y = 0) : Calls Try.prog 37 #[v, u] w (GivesZ1 0 w (z.tdiv y) k) :=
  (exact_z h0 h1 hy hk hl).mono fun e w' h => by
    rcases h with ⟨_, h⟩ | ⟨h, _⟩
    · exact h
    · exact absurd hr h
theorem exact_no {w : World} {v u : Value} {z y : Int} {k l : Nat} (h0 : Zi w v z k) (h1 : Zi w u y l) (hy : y ≠ 0) (hk : k ≤ 1099511627776) (hl : l ≤ 1099511627776) (hr : z.tmod y ≠ 0) : Calls Try.prog 37 #[v, u] w (GivesZ1 8 w 0 k) :=
  (exact_z h0 h1 hy hk hl).mono fun e w' h => by
    rcases h with ⟨h, _⟩ | ⟨_, h1, h2⟩
    · exact absurd h hr
    · exact ⟨_, h1, zm_nil _ _ _, h2⟩

theorem tmod_small {z y : Int} (hy : y ≠ 0) : ((z.tmod y).natAbs : Int) < (y.natAbs : Int) ∧ (0 ≤ z → 0 ≤ z.tmod y) ∧ (z ≤ 0 → z.tmod y ≤ 0) ∧ z.tdiv y * y + z.tmod y = z := by
  have h0 : z.tdiv y * y + z.tmod y = z := by rw [Int.mul_comm]; exact Int.mul_tdiv_add_tmod z y
  have h1 := Int.tmod_eq_emod (a := z) (b := y)
  have h2 := Int.emod_nonneg z hy
  have h3 : z % y < (y.natAbs : Int) := by
    by_cases h : 0 < y
    · have := Int.emod_lt_of_pos z h
      omega
    · have := Int.emod_lt_of_pos z (b := -y) (by omega)
      rw [Int.emod_neg] at this
      omega
  have h4 : 0 ≤ z → 0 ≤ z.tmod y := fun h => by
    rw [if_pos (.inl h)] at h1
    omega
  have h5 : z ≤ 0 → z.tmod y ≤ 0 := fun h => by
    have h6 := Int.tmod_eq_emod (a := -z) (b := y)
    rw [if_pos (.inl (by omega)), Int.neg_tmod] at h6
    have h7 := Int.emod_nonneg (-z) hy
    omega
  refine ⟨?_, h4, h5, h0⟩
  by_cases h : 0 ≤ z
  · rw [if_pos (.inl h)] at h1
    omega
  · have h6 := Int.tmod_eq_emod (a := -z) (b := y)
    rw [if_pos (.inl (by omega)), Int.neg_tmod] at h6
    have h7 := Int.emod_nonneg (-z) hy
    have h8 : (-z) % y < (y.natAbs : Int) := by
      by_cases h : 0 < y
      · have := Int.emod_lt_of_pos (-z) h
        omega
      · have := Int.emod_lt_of_pos (-z) (b := -y) (by omega)
        rw [Int.emod_neg] at this
        omega
    omega
/-- All that the law asks of the three divisions. -/
structure Divs (A B : Int) : Prop where
  t1 : A.tdiv B * B + A.tmod B = A
  t2 : ((A.tmod B).natAbs : Int) < (B.natAbs : Int)
  t3 : ¬ cmpI (A.tmod B) 0 * cmpI A 0 < 0
  f1 : fdv A B * B + fmd A B = A
  f2 : ((fmd A B).natAbs : Int) < (B.natAbs : Int)
  f3 : ¬ cmpI (fmd A B) 0 * cmpI B 0 < 0
  e1 : edv A B * B + A % B = A
  e2 : 0 ≤ A % B ∧ A % B < (B.natAbs : Int)
  n1 : A.tmod B ≠ 0 → fmd A B ≠ 0 ∧ A % B ≠ 0
  n2 : A.tmod B = 0 → fdv A B = A.tdiv B ∧ edv A B = A.tdiv B
theorem sign_cases (x : Int) : (x < 0 ∧ cmpI x 0 = -1) ∨ (x = 0 ∧ cmpI x 0 = 0) ∨ (0 < x ∧ cmpI x 0 = 1) := cmp_cases x 0
theorem sgn_prod (R B : Int) : cmpI R 0 * cmpI B 0 < 0 ↔ ((R < 0 ∧ 0 < B) ∨ (0 < R ∧ B < 0)) := by
  rcases sign_cases R with ⟨r1, r2⟩ | ⟨r1, r2⟩ | ⟨r1, r2⟩ <;> rcases sign_cases B with ⟨b1, b2⟩ | ⟨b1, b2⟩ | ⟨b1, b2⟩ <;> rw [r2, b2] <;> omega
theorem sgn_abs (B : Int) : cmpI B 0 * B = (B.natAbs : Int) := by
  rcases sign_cases B with ⟨b1, b2⟩ | ⟨b1, b2⟩ | ⟨b1, b2⟩ <;> rw [b2] <;> omega
theorem sgn_neg (R : Int) : cmpI R 0 < 0 ↔ R < 0 := by
  rcases sign_cases R with ⟨r1, r2⟩ | ⟨r1, r2⟩ | ⟨r1, r2⟩ <;> rw [r2] <;> omega
theorem divs {A B : Int} (hB : B ≠ 0) : Divs A B := by
  obtain ⟨h1, h2, h3, h4⟩ := tmod_small (z := A) hB
  obtain ⟨h5, h5'⟩ := euclid_bits (z := A) hB
  have h6 := Int.emod_nonneg A hB
  have hs := sgn_abs B
  refine ⟨h4, h1, ?_, ?_, ?_, ?_, ?_, ⟨h6, ?_⟩, ?_, ?_⟩
  · rw [sgn_prod]; omega
  · unfold fdv fmd
    split
    · rw [Int.sub_mul]; omega
    · exact h4
  · unfold fmd
    split
    · rename_i h
      rw [sgn_prod] at h
      omega
    · exact h1
  · rw [sgn_prod]
    unfold fmd
    split <;> rename_i h <;> rw [sgn_prod] at h <;> omega
  · unfold edv
    split <;> rename_i h <;> rw [sgn_neg] at h
    · rw [Int.sub_mul, hs, ← h5 h]; omega
    · rw [← h5' h]; exact h4
  · by_cases h : A.tmod B < 0
    · rw [← h5 h]; omega
    · rw [← h5' h]; omega
  · intro hR
    refine ⟨?_, ?_⟩
    · unfold fmd
      split
      · omega
      · exact hR
    · by_cases h : A.tmod B < 0
      · rw [← h5 h]; omega
      · rw [← h5' h]; exact hR
  · intro hR
    refine ⟨?_, ?_⟩
    · unfold fdv
      rw [if_neg]
      rw [sgn_prod]; omega
    · unfold edv
      rw [if_neg]
      rw [sgn_neg]; omega

end Go.Proofs.Ytaoammmnpfbdfaa
