/-
  ZMod: Mod, Sym.
-/
import Derived.Test.YtonmlmdnjjafhaaQZEuclid
namespace Go.Proofs.Ytonmlmdnjjafhaa
open Go.RowKit
set_option linter.unusedVariables false

set_option maxHeartbeats 3200000 in
set_option maxRecDepth 100000 in
theorem mod_of {E : Int} {w : World} {v u : Value} {z y q r : Int} {k l kq kr : Nat} (h0 : Zi w v z k) (h1 : Zi w u y l) (H : ∀ w', Zi w' v z k → Zi w' u y l → Calls Try.prog 29 #[v, u] w' (GivesZ2 E w' q r kq kr)) :
    Calls Try.prog 24 #[v, u] w (GivesZ1 E w r kr) := by
  have hv := h0
  have hu := h1
  obtain ⟨n, xs, a, c, rfl, s0, z0, k0⟩ := h0
  obtain ⟨m, ys, b, d, rfl, s1, z1, k1⟩ := h1
  obtain ⟨W0, hW0⟩ : ∃ W0, ((w.alloc (duo (.bool n) (.slice a xs.length c))).alloc (duo (.bool m) (.slice b ys.length d))).alloc zbox = W0 := ⟨_, rfl⟩
  obtain ⟨b0, sz0⟩ := alloc3 w (duo (.bool n) (.slice a xs.length c)) (duo (.bool m) (.slice b ys.length d)) zbox
  rw [hW0] at b0 sz0
  have p0 : Duo W0 (w.heap.size) (.bool n) (.slice a xs.length c) := by rw [← hW0]; exact duo_late (duo_late (duo_at (by simp)) _) _
  have p1 : Duo W0 (w.heap.size + 1) (.bool m) (.slice b ys.length d) := by rw [← hW0]; exact duo_late (duo_at (by simp)) _
  have r0 : Duo W0 (w.heap.size + 1 + 1) (.bool false) (.slice none 0 0) := by rw [← hW0]; exact duo_at (by simp)
  have HKB : Hid (∀ w', Below W0.heap.size W0 w' → w'.cell? ⟨w.heap.size, 0, none⟩ = some (.bool n) ∧ w'.cell? ⟨w.heap.size, 1, none⟩ = some (.slice a xs.length c) ∧ w'.cell? ⟨w.heap.size + 1, 0, none⟩ = some (.bool m) ∧ w'.cell? ⟨w.heap.size + 1, 1, none⟩ = some (.slice b ys.length d)) := fun w' h => ⟨(p0.below h (by omega)).c0, (p0.below h (by omega)).c1, (p1.below h (by omega)).c0, (p1.below h (by omega)).c1⟩
  have HKR : Hid (∀ w', Below W0.heap.size W0 w' → Duo w' (w.heap.size + 1 + 1) (.bool false) (.slice none 0 0)) := fun w' h => r0.below h (by omega)
  obtain ⟨i0, i1, i2, i3⟩ := HKB.out W0 (Below.refl _ _)
  have EW := hid hW0
  have B0 := hid b0
  have HD := hid (H W0 (hv.now b0) (hu.now b0))
  clear hv hu s0 s1 z0 z1 p0 p1 r0 hW0 b0 H
  go_enter Try.func24, Try.ntmps24
  go_wp2_with fail
  rw [EW.out]
  refine HD.out.mono ?_
  rintro e w1 ⟨rq, rr, rfl, mq, mr, b1⟩
  obtain ⟨nq, xq, aq, cq, rfl, -, -, -, -, -⟩ := mq
  obtain ⟨nr, xr, ar, cr, rfl, -, -, -, -, -⟩ := id mr
  obtain ⟨W1, hW1⟩ : ∃ W1, (w1.alloc (duo (.bool nq) (.slice aq xq.length cq))).alloc (duo (.bool nr) (.slice ar xr.length cr)) = W1 := ⟨_, rfl⟩
  obtain ⟨k1, sz1⟩ := alloc2 w1 (duo (.bool nq) (.slice aq xq.length cq)) (duo (.bool nr) (.slice ar xr.length cr))
  rw [hW1] at k1 sz1
  have le1 := b1.size
  have RR := hid (HKR.out W1 (below_step b1 k1))
  have y0 := RR.out.c0
  have y1 := RR.out.c1
  have f0 := RR.out.fz 0
  have f1 := RR.out.fz 1
  rw [← hW1] at y0 y1 f0 f1
  have ZR := hid (mr.now k1)
  have EW1 := hid hW1
  have B1 := hid (below_step B0.out (below_step b1 k1))
  clear mr b1 k1 HD hW1 HKB HKR i0 i1 i2 i3 EW
  go_wp2
  rw [EW1.out]
  exact bodyPost_ret (zback1 Try.results24 (RR.out.set _ _) _ (by rfl) (by rfl)) rfl (gz1_end (B := W0.heap.size) ZR.out B1.out (by omega) (by omega))

theorem euclid_bits {z y : Int} (hy : y ≠ 0) : (z.tmod y < 0 → z.tmod y + (y.natAbs : Int) = z % y) ∧ (¬ z.tmod y < 0 → z.tmod y = z % y) := by
  have h1 := Int.tmod_eq_emod (a := z) (b := y)
  have h2 := Int.emod_nonneg z hy
  have h3 : z % y < (y.natAbs : Int) := by
    by_cases h : 0 < y
    · have := Int.emod_lt_of_pos z h
      omega
    · have := Int.emod_lt_of_pos z (b := -y) (by omega)
      rw [Int.emod_neg] at this
      omega
  split at h1 <;> constructor <;> intro h <;> omega
theorem mod_z {w : World} {v u : Value} {z y : Int} {k l : Nat} (h0 : Zi w v z k) (h1 : Zi w u y l) (hy : y ≠ 0) (hk : k ≤ 1099511627776) (hl : l ≤ 1099511627776) :
    Calls Try.prog 24 #[v, u] w (GivesZ1 0 w (z % y) (max k l + 1)) := by
  by_cases hs : z.tmod y < 0
  · rw [← (euclid_bits hy).1 hs]
    exact mod_of h0 h1 fun w' h h' => euclid_neg h h' hy hk hl (cmpI_neg hs)
  · rw [← (euclid_bits hy).2 hs]
    refine (mod_of h0 h1 fun w' h h' => euclid_pos h h' hy hk hl (cmpI_nonneg (by omega))).mono fun e w' ⟨r, q1, q2, q3⟩ => ⟨r, q1, q2.more (by omega), q3⟩
theorem mod_none {w : World} {v u : Value} {z y : Int} {k l : Nat} (h0 : Zi w v z k) (h1 : Zi w u y l) (hy : y = 0) :
    Calls Try.prog 24 #[v, u] w (GivesZ1 4 w 0 k) := mod_of h0 h1 fun w' h h' => euclid_zero h h' hy
/-- The residue that is nearest to 0. -/
def symv (z y : Int) : Int := if (y.natAbs : Int) < ((z % y + z % y).natAbs : Int) then z % y - (y.natAbs : Int) else z % y
end Go.Proofs.Ytonmlmdnjjafhaa
