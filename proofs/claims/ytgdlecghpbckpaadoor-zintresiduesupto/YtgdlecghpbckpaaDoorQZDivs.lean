/-
  ZDivs: the three divisions in one form each; the law's within.
-/
import Derived.Test.YtgdlecghpbckpaaDoorQZMod
import Derived.Test.YtgdlecghpbckpaaDoorQDec4ToZlaw0
namespace Go.Proofs.YtgdlecghpbckpaaDoor
open Go.RowKit
set_option linter.unusedVariables false

theorem alloc1 (w : World) (o1 : Obj) : Below w.heap.size w (w.alloc o1) ∧ (w.alloc o1).heap.size = w.heap.size + 1 := ⟨(Below.refl _ _).alloc (Nat.le_refl _) _, by simp⟩
def fdv (z y : Int) : Int := if cmpI (z.tmod y) 0 * cmpI y 0 < 0 then z.tdiv y - 1 else z.tdiv y
def fmd (z y : Int) : Int := if cmpI (z.tmod y) 0 * cmpI y 0 < 0 then z.tmod y + y else z.tmod y
def edv (z y : Int) : Int := if cmpI (z.tmod y) 0 < 0 then z.tdiv y - cmpI y 0 else z.tdiv y
theorem floor_z {w : World} {v u : Value} {z y : Int} {k l : Nat} (h0 : Zi w v z k) (h1 : Zi w u y l) (hy : y ≠ 0) (hk : k ≤ 1099511627776) (hl : l ≤ 1099511627776) :
    Calls Tryd.prog 18 #[v, u] w (GivesZ2 0 w (fdv z y) (fmd z y) (max k 1 + 1) (max k l + 1)) := by
  unfold fdv fmd
  by_cases hs : cmpI (z.tmod y) 0 * cmpI y 0 < 0
  · rw [if_pos hs, if_pos hs]
    exact floor_neg h0 h1 hy hk hl hs
  · rw [if_neg hs, if_neg hs]
    exact (floor_pos h0 h1 hy hk hl hs).mono fun e w' ⟨rq, rr, q1, q2, q3, q4⟩ => ⟨rq, rr, q1, q2.more (by omega), q3.more (by omega), q4⟩
theorem euclid_z {w : World} {v u : Value} {z y : Int} {k l : Nat} (h0 : Zi w v z k) (h1 : Zi w u y l) (hy : y ≠ 0) (hk : k ≤ 1099511627776) (hl : l ≤ 1099511627776) :
    Calls Tryd.prog 19 #[v, u] w (GivesZ2 0 w (edv z y) (z % y) (max k 1 + 1) (max k l + 1)) := by
  unfold edv
  by_cases hs : z.tmod y < 0
  · have hc := cmpI_neg hs
    rw [if_pos hc, ← (euclid_bits hy).1 hs]
    exact euclid_neg h0 h1 hy hk hl hc
  · have hc := cmpI_nonneg (a := z.tmod y) (b := 0) (by omega)
    rw [if_neg hc, ← (euclid_bits hy).2 hs]
    exact (euclid_pos h0 h1 hy hk hl hc).mono fun e w' ⟨rq, rr, q1, q2, q3, q4⟩ => ⟨rq, rr, q1, q2.more (by omega), q3.more (by omega), q4⟩
theorem exact_none {w : World} {v u : Value} {z y : Int} {k l : Nat} (h0 : Zi w v z k) (h1 : Zi w u y l) (hy : y = 0) : Calls Tryd.prog 20 #[v, u] w (GivesZ1 4 w 0 k) :=
  (exact_zero_z h0 h1 hy).mono fun e w' ⟨h1, h2⟩ => ⟨_, h1, zm_nil _ _ _, h2⟩
theorem exact_yes {w : World} {v u : Value} {z y : Int} {k l : Nat} (h0 : Zi w v z k) (h1 : Zi w u y l) (hy : y ≠ 0) (hk : k ≤ 1099511627776) (hl : l ≤ 1099511627776) (hr : z.tmod y = 0) : Calls Tryd.prog 20 #[v, u] w (GivesZ1 0 w (z.tdiv y) k) :=
  (exact_z h0 h1 hy hk hl).mono fun e w' h => by
    rcases h with ⟨_, h⟩ | ⟨h, _⟩
    · exact h
    · exact absurd hr h
theorem exact_no {w : World} {v u : Value} {z y : Int} {k l : Nat} (h0 : Zi w v z k) (h1 : Zi w u y l) (hy : y ≠ 0) (hk : k ≤ 1099511627776) (hl : l ≤ 1099511627776) (hr : z.tmod y ≠ 0) : Calls Tryd.prog 20 #[v, u] w (GivesZ1 8 w 0 k) :=
  (exact_z h0 h1 hy hk hl).mono fun e w' h => by
    rcases h with ⟨h, _⟩ | ⟨_, h1, h2⟩
    · exact absurd h hr
    · exact ⟨_, h1, zm_nil _ _ _, h2⟩

theorem tmod_small {z y : Int} (hy : y ≠ 0) : ((z.tmod y).natAbs : Int) < (y.natAbs : Int) ∧ (0 ≤ z → 0 ≤ z.tmod y) ∧ (z ≤ 0 → z.tmod y ≤ 0) ∧ z.tdiv y * y + z.tmod y = z := by
  have h0 : z.tdiv y * y + z.tmod y = z := by rw [Int.mul_comm]; exact Int.mul_tdiv_add_tmod z y
  have h1 := Int.tmod_eq_emod (a := z) (b := y)
  have h2 := Int.emod_nonneg z hy
  have h3 : z % y < (y.natAbs : Int) := by
    by_cases h : 0 < y
    · have := Int.emod_lt_of_pos z h
      omega
    · have := Int.emod_lt_of_pos z (b := -y) (by omega)
      rw [Int.emod_neg] at this
      omega
  have h4 : 0 ≤ z → 0 ≤ z.tmod y := fun h => by
    rw [if_pos (.inl h)] at h1
    omega
  have h5 : z ≤ 0 → z.tmod y ≤ 0 := fun h => by
    have h6 := Int.tmod_eq_emod (a := -z) (b := y)
    rw [if_pos (.inl (by omega)), Int.neg_tmod] at h6
    have h7 := Int.emod_nonneg (-z) hy
    omega
  refine ⟨?_, h4, h5, h0⟩
  by_cases h : 0 ≤ z
  · rw [if_pos (.inl h)] at h1
    omega
  · have h6 := Int.tmod_eq_emod (a := -z) (b := y)
    rw [if_pos (.inl (by omega)), Int.neg_tmod] at h6
    have h7 := Int.emod_nonneg (-z) hy
    have h8 : (-z) % y < (y.natAbs : Int) := by
      by_cases h : 0 < y
      · have := Int.emod_lt_of_pos (-z) h
        omega
      · have := Int.emod_lt_of_pos (-z) (b := -y) (by omega)
        rw [Int.emod_neg] at this
        omega
    omega
/-- All that the law asks of the three divisions. -/
structure Divs (A B : Int) : Prop where
  t1 : A.tdiv B * B + A.tmod B = A
  t2 : ((A.tmod B).natAbs : Int) < (B.natAbs : Int)
  t3 : ¬ cmpI (A.tmod B) 0 * cmpI A 0 < 0
  f1 : fdv A B * B + fmd A B = A
  f2 : ((fmd A B).natAbs : Int) < (B.natAbs : Int)
  f3 : ¬ cmpI (fmd A B) 0 * cmpI B 0 < 0
  e1 : edv A B * B + A % B = A
  e2 : 0 ≤ A % B ∧ A % B < (B.natAbs : Int)
  n1 : A.tmod B ≠ 0 → fmd A B ≠ 0 ∧ A % B ≠ 0
  n2 : A.tmod B = 0 → fdv A B = A.tdiv B ∧ edv A B = A.tdiv B
theorem sign_cases (x : Int) : (x < 0 ∧ cmpI x 0 = -1) ∨ (x = 0 ∧ cmpI x 0 = 0) ∨ (0 < x ∧ cmpI x 0 = 1) := cmp_cases x 0
theorem sgn_prod (R B : Int) : cmpI R 0 * cmpI B 0 < 0 ↔ ((R < 0 ∧ 0 < B) ∨ (0 < R ∧ B < 0)) := by
  rcases sign_cases R with ⟨r1, r2⟩ | ⟨r1, r2⟩ | ⟨r1, r2⟩ <;> rcases sign_cases B with ⟨b1, b2⟩ | ⟨b1, b2⟩ | ⟨b1, b2⟩ <;> rw [r2, b2] <;> omega
theorem sgn_abs (B : Int) : cmpI B 0 * B = (B.natAbs : Int) := by
  rcases sign_cases B with ⟨b1, b2⟩ | ⟨b1, b2⟩ | ⟨b1, b2⟩ <;> rw [b2] <;> omega
theorem sgn_neg (R : Int) : cmpI R 0 < 0 ↔ R < 0 := by
  rcases sign_cases R with ⟨r1, r2⟩ | ⟨r1, r2⟩ | ⟨r1, r2⟩ <;> rw [r2] <;> omega
theorem divs {A B : Int} (hB : B ≠ 0) : Divs A B := by
  obtain ⟨h1, h2, h3, h4⟩ := tmod_small (z := A) hB
  obtain ⟨h5, h5'⟩ := euclid_bits (z := A) hB
  have h6 := Int.emod_nonneg A hB
  have hs := sgn_abs B
  refine ⟨h4, h1, ?_, ?_, ?_, ?_, ?_, ⟨h6, ?_⟩, ?_, ?_⟩
  · rw [sgn_prod]; omega
  · unfold fdv fmd
    split
    · rw [Int.sub_mul]; omega
    · exact h4
  · unfold fmd
    split
    · rename_i h
      rw [sgn_prod] at h
      omega
    · exact h1
  · rw [sgn_prod]
    unfold fmd
    split <;> rename_i h <;> rw [sgn_prod] at h <;> omega
  · unfold edv
    split <;> rename_i h <;> rw [sgn_neg] at h
    · rw [Int.sub_mul, hs, ← h5 h]; omega
    · rw [← h5' h]; exact h4
  · by_cases h : A.tmod B < 0
    · rw [← h5 h]; omega
    · rw [← h5' h]; omega
  · intro hR
    refine ⟨?_, ?_⟩
    · unfold fmd
      split
      · omega
      · exact hR
    · by_cases h : A.tmod B < 0
      · rw [← h5 h]; omega
      · rw [← h5' h]; exact hR
  · intro hR
    refine ⟨?_, ?_⟩
    · unfold fdv
      rw [if_neg]
      rw [sgn_prod]; omega
    · unfold edv
      rw [if_neg]
      rw [sgn_neg]; omega

set_option maxHeartbeats 800000 in
set_option maxRecDepth 100000 in
theorem within_yes {w : World} {v u : Value} {z y : Int} {k l : Nat} (h0 : Zi w v z k) (h1 : Zi w u y l) (hz : 0 ≤ z ∧ z < (y.natAbs : Int)) :
    Calls Tryd.prog 23 #[v, u] w fun e w' => e = .returned (.bool true) ∧ Below w.heap.size w w' := by
  have hv := h0
  have hu := h1
  obtain ⟨n, xs, a, c, rfl, -, -, -⟩ := h0
  obtain ⟨m, ys, b, d, rfl, -, -, -⟩ := h1
  obtain ⟨W0, hW0⟩ : ∃ W0, (w.alloc (duo (.bool n) (.slice a xs.length c))).alloc (duo (.bool m) (.slice b ys.length d)) = W0 := ⟨_, rfl⟩
  obtain ⟨b0, sz0⟩ := alloc2 w (duo (.bool n) (.slice a xs.length c)) (duo (.bool m) (.slice b ys.length d))
  rw [hW0] at b0 sz0
  have p0 : Duo W0 w.heap.size (.bool n) (.slice a xs.length c) := by rw [← hW0]; exact duo_late (duo_at rfl) _
  have p1 : Duo W0 (w.heap.size + 1) (.bool m) (.slice b ys.length d) := by rw [← hW0]; exact duo_at (by simp)
  have HKB : Hid (∀ w', Below W0.heap.size W0 w' → Duo w' w.heap.size (.bool n) (.slice a xs.length c) ∧ Duo w' (w.heap.size + 1) (.bool m) (.slice b ys.length d)) := fun w' h => ⟨p0.below h (by omega), p1.below h (by omega)⟩
  have H1 := hid (sign_z (hv.now b0))
  have H3 : Hid (∀ w', Below W0.heap.size W0 w' → _) := fun w' h => cmpAbs_z ((hv.now b0).now h) ((hu.now b0).now h)
  have g1 : (0 : Int) ≤ cmpI z 0 := by unfold cmpI; (repeat' split) <;> omega
  have g2 : cmpI (z.natAbs : Int) (y.natAbs : Int) < 0 := by rw [cmpI_lt (by omega)]; omega
  generalize cmpI z 0 = C1 at *
  generalize cmpI (z.natAbs : Int) (y.natAbs : Int) = C2 at *
  have EW := hid hW0
  have B0 := hid b0
  clear hv hu b0 p0 p1 hW0 hz
  go_enter Tryd.func23, Tryd.ntmps23
  go_wp2_with fail
  rw [EW.out]
  refine H1.out.mono ?_
  rintro e w1 ⟨rfl, b1⟩
  obtain ⟨d0, d1⟩ := HKB.out w1 b1
  have e0 := d0.c0
  have e1 := d0.c1
  have e2 := d1.c0
  have e3 := d1.c1
  have B1 := hid b1
  clear b1 H1 d0 d1
  go_wp2_with fail
  refine (H3.out w1 B1.out).mono ?_
  rintro e w2 ⟨rfl, b2⟩
  have B2 := hid (below_step B0.out (below_step B1.out b2))
  clear b2
  go_wp2
  go_ret
  exact ⟨rfl, B2.out⟩
end Go.Proofs.YtgdlecghpbckpaaDoor
