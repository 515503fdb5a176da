/-
  QZModToZDivs: ZMod, Zlaw0, ZDivs, joined.
-/
import Derived.Test.YtkikiddoiigbjaaQZEuclid
import Derived.Test.YtkikiddoiigbjaaQAlikeToOpenV8

/- ZMod -/
namespace Go.Proofs.Ytkikiddoiigbjaa
open Go.RowKit
set_option linter.unusedVariables false

set_option maxHeartbeats 3200000 in
set_option maxRecDepth 100000 in
theorem mod_of {E : Int} {w : World} {v u : Value} {z y q r : Int} {k l kq kr : Nat} (h0 : Zi w v z k) (h1 : Zi w u y l) (H : ∀ w', Zi w' v z k → Zi w' u y l → Calls Try.prog 37 #[v, u] w' (GivesZ2 E w' q r kq kr)) :
    Calls Try.prog 55 #[v, u] w (GivesZ1 E w r kr) := by
  have hv := h0
  have hu := h1
  obtain ⟨n, xs, a, c, rfl, s0, z0, k0⟩ := h0
  obtain ⟨m, ys, b, d, rfl, s1, z1, k1⟩ := h1
  obtain ⟨W0, hW0⟩ : ∃ W0, ((w.alloc (duo (.bool n) (.slice a xs.length c))).alloc (duo (.bool m) (.slice b ys.length d))).alloc zbox = W0 := ⟨_, rfl⟩
  obtain ⟨b0, sz0⟩ := alloc3 w (duo (.bool n) (.slice a xs.length c)) (duo (.bool m) (.slice b ys.length d)) zbox
  rw [hW0] at b0 sz0
  have p0 : Duo W0 (w.heap.size) (.bool n) (.slice a xs.length c) := by rw [← hW0]; exact duo_late (duo_late (duo_at (by simp)) _) _
  have p1 : Duo W0 (w.heap.size + 1) (.bool m) (.slice b ys.length d) := by rw [← hW0]; exact duo_late (duo_at (by simp)) _
  have r0 : Duo W0 (w.heap.size + 1 + 1) (.bool false) (.slice none 0 0) := by rw [← hW0]; exact duo_at (by simp)
  have HKB : Hid (∀ w', Below W0.heap.size W0 w' → w'.cell? ⟨w.heap.size, 0, none⟩ = some (.bool n) ∧ w'.cell? ⟨w.heap.size, 1, none⟩ = some (.slice a xs.length c) ∧ w'.cell? ⟨w.heap.size + 1, 0, none⟩ = some (.bool m) ∧ w'.cell? ⟨w.heap.size + 1, 1, none⟩ = some (.slice b ys.length d)) := fun w' h => ⟨(p0.below h (by omega)).c0, (p0.below h (by omega)).c1, (p1.below h (by omega)).c0, (p1.below h (by omega)).c1⟩
  have HKR : Hid (∀ w', Below W0.heap.size W0 w' → Duo w' (w.heap.size + 1 + 1) (.bool false) (.slice none 0 0)) := fun w' h => r0.below h (by omega)
  obtain ⟨i0, i1, i2, i3⟩ := HKB.out W0 (Below.refl _ _)
  have EW := hid hW0
  have B0 := hid b0
  have HD := hid (H W0 (hv.now b0) (hu.now b0))
  clear hv hu s0 s1 z0 z1 p0 p1 r0 hW0 b0 H
  go_enter Try.func55, Try.ntmps55
  go_wp2_with fail
  rw [EW.out]
  refine HD.out.mono ?_
  rintro e w1 ⟨rq, rr, rfl, mq, mr, b1⟩
  obtain ⟨nq, xq, aq, cq, rfl, -, -, -, -, -⟩ := mq
  obtain ⟨nr, xr, ar, cr, rfl, -, -, -, -, -⟩ := id mr
  obtain ⟨W1, hW1⟩ : ∃ W1, (w1.alloc (duo (.bool nq) (.slice aq xq.length cq))).alloc (duo (.bool nr) (.slice ar xr.length cr)) = W1 := ⟨_, rfl⟩
  obtain ⟨k1, sz1⟩ := alloc2 w1 (duo (.bool nq) (.slice aq xq.length cq)) (duo (.bool nr) (.slice ar xr.length cr))
  rw [hW1] at k1 sz1
  have le1 := b1.size
  have RR := hid (HKR.out W1 (below_step b1 k1))
  have y0 := RR.out.c0
  have y1 := RR.out.c1
  have f0 := RR.out.fz 0
  have f1 := RR.out.fz 1
  rw [← hW1] at y0 y1 f0 f1
  have ZR := hid (mr.now k1)
  have EW1 := hid hW1
  have B1 := hid (below_step B0.out (below_step b1 k1))
  clear mr b1 k1 HD hW1 HKB HKR i0 i1 i2 i3 EW
  go_wp2
  rw [EW1.out]
  exact bodyPost_ret (zback1 Try.results55 (RR.out.set _ _) _ (by rfl) (by rfl)) rfl (gz1_end (B := W0.heap.size) ZR.out B1.out (by omega) (by omega))

theorem euclid_bits {z y : Int} (hy : y ≠ 0) : (z.tmod y < 0 → z.tmod y + (y.natAbs : Int) = z % y) ∧ (¬ z.tmod y < 0 → z.tmod y = z % y) := by
  have h1 := Int.tmod_eq_emod (a := z) (b := y)
  have h2 := Int.emod_nonneg z hy
  have h3 : z % y < (y.natAbs : Int) := by
    by_cases h : 0 < y
    · have := Int.emod_lt_of_pos z h
      omega
    · have := Int.emod_lt_of_pos z (b := -y) (by omega)
      rw [Int.emod_neg] at this
      omega
  split at h1 <;> constructor <;> intro h <;> omega
theorem mod_z {w : World} {v u : Value} {z y : Int} {k l : Nat} (h0 : Zi w v z k) (h1 : Zi w u y l) (hy : y ≠ 0) (hk : k ≤ 1099511627776) (hl : l ≤ 1099511627776) :
    Calls Try.prog 55 #[v, u] w (GivesZ1 0 w (z % y) (max k l + 1)) := by
  by_cases hs : z.tmod y < 0
  · rw [← (euclid_bits hy).1 hs]
    exact mod_of h0 h1 fun w' h h' => euclid_neg h h' hy hk hl (cmpI_neg hs)
  · rw [← (euclid_bits hy).2 hs]
    refine (mod_of h0 h1 fun w' h h' => euclid_pos h h' hy hk hl (cmpI_nonneg (by omega))).mono fun e w' ⟨r, q1, q2, q3⟩ => ⟨r, q1, q2.more (by omega), q3⟩
theorem mod_none {w : World} {v u : Value} {z y : Int} {k l : Nat} (h0 : Zi w v z k) (h1 : Zi w u y l) (hy : y = 0) :
    Calls Try.prog 55 #[v, u] w (GivesZ1 4 w 0 k) := mod_of h0 h1 fun w' h h' => euclid_zero h h' hy
/-- The residue that is nearest to 0. -/
def symv (z y : Int) : Int := if (y.natAbs : Int) < ((z % y + z % y).natAbs : Int) then z % y - (y.natAbs : Int) else z % y
end Go.Proofs.Ytkikiddoiigbjaa

/- Zlaw0 -/
namespace Go.Proofs.Ytkikiddoiigbjaa
open Go.RowKit
set_option linter.unusedVariables false

theorem below_more {w0 w : World} {o : Obj} (h : Below w0.heap.size w0 w) : Below w0.heap.size w0 (w.alloc o) := h.alloc h.size o
theorem zm_zero {B : Nat} {w : World} {n : Bool} {xs : List Int} {a : Option Addr} {c k : Nat} {z : Int} (h : Zm B w (.agg #[.bool n, .slice a xs.length c]) z k) (hz : z = 0) : n = false ∧ xs = [] := by
  obtain ⟨n', xs', a', c', h1, h2, h3, h4, h5, h6⟩ := h
  simp only [Value.agg.injEq, Array.mk.injEq, List.cons.injEq, Value.bool.injEq, Value.slice.injEq, and_true] at h1
  obtain ⟨rfl, rfl, h7, rfl⟩ := h1
  have h0 : val xs' = 0 := by rw [hz] at h5; cases n <;> simp [iv] at h5 <;> exact h5
  have e : xs' = [] := canon_zero h3 h0
  subst e
  exact ⟨h4 rfl, List.eq_nil_of_length_eq_zero h7⟩
theorem zl_three {w : World} {x0 y0 x1 y1 x2 y2 : Value} {A B C : Int} {k : Nat} (ha : Zi w (.agg #[x0, y0]) A k) (hb : Zi w (.agg #[x1, y1]) B k) (hc : Zi w (.agg #[x2, y2]) C k) :
    Zl (w.alloc (.cells #[x0, y0, x1, y1, x2, y2] 25)) (.slice (some ⟨w.heap.size, 0, none⟩) 3 3) [A, B, C] k := by
  have b0 : Below w.heap.size w (w.alloc (.cells #[x0, y0, x1, y1, x2, y2] 25)) := (Below.refl _ _).alloc (Nat.le_refl _) _
  have h := heap_alloc_new w (.cells #[x0, y0, x1, y1, x2, y2] 25)
  have sz : w.heap.size < (w.alloc (.cells #[x0, y0, x1, y1, x2, y2] 25)).heap.size := by simp
  generalize w.alloc (.cells #[x0, y0, x1, y1, x2, y2] 25) = W at *
  refine ⟨_, 3, rfl, by simp, by simp, .inr ⟨w.heap.size, 0, rfl, sz, fun j hj => ?_⟩⟩
  simp only [List.length_cons, List.length_nil] at hj
  rcases (show j = 0 ∨ j = 1 ∨ j = 2 by omega) with rfl | rfl | rfl
  · exact ⟨x0, y0, by simp [World.cell?, h], by simp [World.cell?, h], ha.now b0⟩
  · exact ⟨x1, y1, by simp [World.cell?, h], by simp [World.cell?, h], hb.now b0⟩
  · exact ⟨x2, y2, by simp [World.cell?, h], by simp [World.cell?, h], hc.now b0⟩
theorem int_as {F : FuncId} {args : Array Value} {w : World} {X Y : Int} (h : Calls Try.prog F args w fun e w' => e = .returned (.int .i64 X) ∧ Below w.heap.size w w') (e : X = Y) : Calls Try.prog F args w fun e w' => e = .returned (.int .i64 Y) ∧ Below w.heap.size w w' := by
  subst e; exact h
theorem wrap_mul {x y : Int} (hx : -1 ≤ x ∧ x ≤ 1) (hy : -1 ≤ y ∧ y ≤ 1) : IntKind.i64.wrap (x * y) = x * y := by
  obtain ⟨h1, h2⟩ := hx
  obtain ⟨h3, h4⟩ := hy
  rcases (show x = -1 ∨ x = 0 ∨ x = 1 by omega) with rfl | rfl | rfl <;> rw [wrap_is] <;> omega
theorem cmp_cases (a b : Int) : (a < b ∧ cmpI a b = -1) ∨ (a = b ∧ cmpI a b = 0) ∨ (b < a ∧ cmpI a b = 1) := by
  rcases Int.lt_trichotomy a b with h | h | h
  · exact .inl ⟨h, cmpI_lt h⟩
  · subst h; exact .inr (.inl ⟨rfl, cmpI_self a⟩)
  · exact .inr (.inr ⟨h, cmpI_gt h⟩)
end Go.Proofs.Ytkikiddoiigbjaa

/- ZDivs -/
namespace Go.Proofs.Ytkikiddoiigbjaa
open Go.RowKit
set_option linter.unusedVariables false

theorem alloc1 (w : World) (o1 : Obj) : Below w.heap.size w (w.alloc o1) ∧ (w.alloc o1).heap.size = w.heap.size + 1 := ⟨(Below.refl _ _).alloc (Nat.le_refl _) _, by simp⟩
def fdv (z y : Int) : Int := if cmpI (z.tmod y) 0 * cmpI y 0 < 0 then z.tdiv y - 1 else z.tdiv y
def fmd (z y : Int) : Int := if cmpI (z.tmod y) 0 * cmpI y 0 < 0 then z.tmod y + y else z.tmod y
def edv (z y : Int) : Int := if cmpI (z.tmod y) 0 < 0 then z.tdiv y - cmpI y 0 else z.tdiv y
theorem euclid_z {w : World} {v u : Value} {z y : Int} {k l : Nat} (h0 : Zi w v z k) (h1 : Zi w u y l) (hy : y ≠ 0) (hk : k ≤ 1099511627776) (hl : l ≤ 1099511627776) :
    Calls Try.prog 37 #[v, u] w (GivesZ2 0 w (edv z y) (z % y) (max k 1 + 1) (max k l + 1)) := by
  unfold edv
  by_cases hs : z.tmod y < 0
  · have hc := cmpI_neg hs
    rw [if_pos hc, ← (euclid_bits hy).1 hs]
    exact euclid_neg h0 h1 hy hk hl hc
  · have hc := cmpI_nonneg (a := z.tmod y) (b := 0) (by omega)
    rw [if_neg hc, ← (euclid_bits hy).2 hs]
    exact (euclid_pos h0 h1 hy hk hl hc).mono fun e w' ⟨rq, rr, q1, q2, q3, q4⟩ => ⟨rq, rr, q1, q2.more (by omega), q3.more (by omega), q4⟩
theorem exact_none {w : World} {v u : Value} {z y : Int} {k l : Nat} (h0 : Zi w v z k) (h1 : Zi w u y l) (hy : y = 0) : Calls Try.prog 30 #[v, u] w (GivesZ1 4 w 0 k) :=
  (exact_zero_z h0 h1 hy).mono fun e w' ⟨h1, h2⟩ => ⟨_, h1, zm_nil _ _ _, h2⟩
theorem exact_yes {w : World} {v u : Value} {z y : Int} {k l : Nat} (h0 : Zi w v z k) (h1 : Zi w u y l) (hy : y ≠ 0) (hk : k ≤ 1099511627776) (hl : l ≤ 1099511627776) (hr : z.tmod y = 0) : Calls Try.prog 30 #[v, u] w (GivesZ1 0 w (z.tdiv y) k) :=
  (exact_z h0 h1 hy hk hl).mono fun e w' h => by
    rcases h with ⟨_, h⟩ | ⟨h, _⟩
    · exact h
    · exact absurd hr h
theorem exact_no {w : World} {v u : Value} {z y : Int} {k l : Nat} (h0 : Zi w v z k) (h1 : Zi w u y l) (hy : y ≠ 0) (hk : k ≤ 1099511627776) (hl : l ≤ 1099511627776) (hr : z.tmod y ≠ 0) : Calls Try.prog 30 #[v, u] w (GivesZ1 8 w 0 k) :=
  (exact_z h0 h1 hy hk hl).mono fun e w' h => by
    rcases h with ⟨h, _⟩ | ⟨_, h1, h2⟩
    · exact absurd h hr
    · exact ⟨_, h1, zm_nil _ _ _, h2⟩

theorem tmod_small {z y : Int} (hy : y ≠ 0) : ((z.tmod y).natAbs : Int) < (y.natAbs : Int) ∧ (0 ≤ z → 0 ≤ z.tmod y) ∧ (z ≤ 0 → z.tmod y ≤ 0) ∧ z.tdiv y * y + z.tmod y = z := by
  have h0 : z.tdiv y * y + z.tmod y = z := by rw [Int.mul_comm]; exact Int.mul_tdiv_add_tmod z y
  have h1 := Int.tmod_eq_emod (a := z) (b := y)
  have h2 := Int.emod_nonneg z hy
  have h3 : z % y < (y.natAbs : Int) := by
    by_cases h : 0 < y
    · have := Int.emod_lt_of_pos z h
      omega
    · have := Int.emod_lt_of_pos z (b := -y) (by omega)
      rw [Int.emod_neg] at this
      omega
  have h4 : 0 ≤ z → 0 ≤ z.tmod y := fun h => by
    rw [if_pos (.inl h)] at h1
    omega
  have h5 : z ≤ 0 → z.tmod y ≤ 0 := fun h => by
    have h6 := Int.tmod_eq_emod (a := -z) (b := y)
    rw [if_pos (.inl (by omega)), Int.neg_tmod] at h6
    have h7 := Int.emod_nonneg (-z) hy
    omega
  refine ⟨?_, h4, h5, h0⟩
  by_cases h : 0 ≤ z
  · rw [if_pos (.inl h)] at h1
    omega
  · have h6 := Int.tmod_eq_emod (a := -z) (b := y)
    rw [if_pos (.inl (by omega)), Int.neg_tmod] at h6
    have h7 := Int.emod_nonneg (-z) hy
    have h8 : (-z) % y < (y.natAbs : Int) := by
      by_cases h : 0 < y
      · have := Int.emod_lt_of_pos (-z) h
        omega
      · have := Int.emod_lt_of_pos (-z) (b := -y) (by omega)
        rw [Int.emod_neg] at this
        omega
    omega
/-- All that the law asks of the three divisions. -/
structure Divs (A B : Int) : Prop where
  t1 : A.tdiv B * B + A.tmod B = A
  t2 : ((A.tmod B).natAbs : Int) < (B.natAbs : Int)
  t3 : ¬ cmpI (A.tmod B) 0 * cmpI A 0 < 0
  f1 : fdv A B * B + fmd A B = A
  f2 : ((fmd A B).natAbs : Int) < (B.natAbs : Int)
  f3 : ¬ cmpI (fmd A B) 0 * cmpI B 0 < 0
  e1 : edv A B * B + A % B = A
  e2 : 0 ≤ A % B ∧ A % B < (B.natAbs : Int)
  n1 : A.tmod B ≠ 0 → fmd A B ≠ 0 ∧ A % B ≠ 0
  n2 : A.tmod B = 0 → fdv A B = A.tdiv B ∧ edv A B = A.tdiv B
theorem sign_cases (x : Int) : (x < 0 ∧ cmpI x 0 = -1) ∨ (x = 0 ∧ cmpI x 0 = 0) ∨ (0 < x ∧ cmpI x 0 = 1) := cmp_cases x 0
theorem sgn_prod (R B : Int) : cmpI R 0 * cmpI B 0 < 0 ↔ ((R < 0 ∧ 0 < B) ∨ (0 < R ∧ B < 0)) := by
  rcases sign_cases R with ⟨r1, r2⟩ | ⟨r1, r2⟩ | ⟨r1, r2⟩ <;> rcases sign_cases B with ⟨b1, b2⟩ | ⟨b1, b2⟩ | ⟨b1, b2⟩ <;> rw [r2, b2] <;> omega
theorem sgn_abs (B : Int) : cmpI B 0 * B = (B.natAbs : Int) := by
  rcases sign_cases B with ⟨b1, b2⟩ | ⟨b1, b2⟩ | ⟨b1, b2⟩ <;> rw [b2] <;> omega
theorem sgn_neg (R : Int) : cmpI R 0 < 0 ↔ R < 0 := by
  rcases sign_cases R with ⟨r1, r2⟩ | ⟨r1, r2⟩ | ⟨r1, r2⟩ <;> rw [r2] <;> omega
theorem divs {A B : Int} (hB : B ≠ 0) : Divs A B := by
  obtain ⟨h1, h2, h3, h4⟩ := tmod_small (z := A) hB
  obtain ⟨h5, h5'⟩ := euclid_bits (z := A) hB
  have h6 := Int.emod_nonneg A hB
  have hs := sgn_abs B
  refine ⟨h4, h1, ?_, ?_, ?_, ?_, ?_, ⟨h6, ?_⟩, ?_, ?_⟩
  · rw [sgn_prod]; omega
  · unfold fdv fmd
    split
    · rw [Int.sub_mul]; omega
    · exact h4
  · unfold fmd
    split
    · rename_i h
      rw [sgn_prod] at h
      omega
    · exact h1
  · rw [sgn_prod]
    unfold fmd
    split <;> rename_i h <;> rw [sgn_prod] at h <;> omega
  · unfold edv
    split <;> rename_i h <;> rw [sgn_neg] at h
    · rw [Int.sub_mul, hs, ← h5 h]; omega
    · rw [← h5' h]; exact h4
  · by_cases h : A.tmod B < 0
    · rw [← h5 h]; omega
    · rw [← h5' h]; omega
  · intro hR
    refine ⟨?_, ?_⟩
    · unfold fmd
      split
      · omega
      · exact hR
    · by_cases h : A.tmod B < 0
      · rw [← h5 h]; omega
      · rw [← h5' h]; exact hR
  · intro hR
    refine ⟨?_, ?_⟩
    · unfold fdv
      rw [if_neg]
      rw [sgn_prod]; omega
    · unfold edv
      rw [if_neg]
      rw [sgn_neg]; omega

end Go.Proofs.Ytkikiddoiigbjaa
