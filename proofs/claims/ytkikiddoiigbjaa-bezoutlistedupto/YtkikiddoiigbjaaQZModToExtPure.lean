/-
  QZModToExtPure: ZMod, Zlaw0, ZDivs, ExtPure, joined.
-/
import Derived.Test.YtkikiddoiigbjaaQZEuclid
import Derived.Test.YtkikiddoiigbjaaQAlikeToOpenV8

/- ZMod -/
namespace Go.Proofs.Ytkikiddoiigbjaa
open Go.RowKit
set_option linter.unusedVariables false

set_option maxHeartbeats 3200000 in
set_option maxRecDepth 100000 in
theorem mod_of {E : Int} {w : World} {v u : Value} {z y q r : Int} {k l kq kr : Nat} (h0 : Zi w v z k) (h1 : Zi w u y l) (H : ∀ w', Zi w' v z k → Zi w' u y l → Calls Try.prog 37 #[v, u] w' (GivesZ2 E w' q r kq kr)) :
    Calls Try.prog 55 #[v, u] w (GivesZ1 E w r kr) := by
  have hv := h0
  have hu := h1
  obtain ⟨n, xs, a, c, rfl, s0, z0, k0⟩ := h0
  obtain ⟨m, ys, b, d, rfl, s1, z1, k1⟩ := h1
  obtain ⟨W0, hW0⟩ : ∃ W0, ((w.alloc (duo (.bool n) (.slice a xs.length c))).alloc (duo (.bool m) (.slice b ys.length d))).alloc zbox = W0 := ⟨_, rfl⟩
  obtain ⟨b0, sz0⟩ := alloc3 w (duo (.bool n) (.slice a xs.length c)) (duo (.bool m) (.slice b ys.length d)) zbox
  rw [hW0] at b0 sz0
  have p0 : Duo W0 (w.heap.size) (.bool n) (.slice a xs.length c) := by rw [← hW0]; exact duo_late (duo_late (duo_at (by simp)) _) _
  have p1 : Duo W0 (w.heap.size + 1) (.bool m) (.slice b ys.length d) := by rw [← hW0]; exact duo_late (duo_at (by simp)) _
  have r0 : Duo W0 (w.heap.size + 1 + 1) (.bool false) (.slice none 0 0) := by rw [← hW0]; exact duo_at (by simp)
  have HKB : Hid (∀ w', Below W0.heap.size W0 w' → w'.cell? ⟨w.heap.size, 0, none⟩ = some (.bool n) ∧ w'.cell? ⟨w.heap.size, 1, none⟩ = some (.slice a xs.length c) ∧ w'.cell? ⟨w.heap.size + 1, 0, none⟩ = some (.bool m) ∧ w'.cell? ⟨w.heap.size + 1, 1, none⟩ = some (.slice b ys.length d)) := fun w' h => ⟨(p0.below h (by omega)).c0, (p0.below h (by omega)).c1, (p1.below h (by omega)).c0, (p1.below h (by omega)).c1⟩
  have HKR : Hid (∀ w', Below W0.heap.size W0 w' → Duo w' (w.heap.size + 1 + 1) (.bool false) (.slice none 0 0)) := fun w' h => r0.below h (by omega)
  obtain ⟨i0, i1, i2, i3⟩ := HKB.out W0 (Below.refl _ _)
  have EW := hid hW0
  have B0 := hid b0
  have HD := hid (H W0 (hv.now b0) (hu.now b0))
  clear hv hu s0 s1 z0 z1 p0 p1 r0 hW0 b0 H
  go_enter Try.func55, Try.ntmps55
  go_wp2_with fail
  rw [EW.out]
  refine HD.out.mono ?_
  rintro e w1 ⟨rq, rr, rfl, mq, mr, b1⟩
  obtain ⟨nq, xq, aq, cq, rfl, -, -, -, -, -⟩ := mq
  obtain ⟨nr, xr, ar, cr, rfl, -, -, -, -, -⟩ := id mr
  obtain ⟨W1, hW1⟩ : ∃ W1, (w1.alloc (duo (.bool nq) (.slice aq xq.length cq))).alloc (duo (.bool nr) (.slice ar xr.length cr)) = W1 := ⟨_, rfl⟩
  obtain ⟨k1, sz1⟩ := alloc2 w1 (duo (.bool nq) (.slice aq xq.length cq)) (duo (.bool nr) (.slice ar xr.length cr))
  rw [hW1] at k1 sz1
  have le1 := b1.size
  have RR := hid (HKR.out W1 (below_step b1 k1))
  have y0 := RR.out.c0
  have y1 := RR.out.c1
  have f0 := RR.out.fz 0
  have f1 := RR.out.fz 1
  rw [← hW1] at y0 y1 f0 f1
  have ZR := hid (mr.now k1)
  have EW1 := hid hW1
  have B1 := hid (below_step B0.out (below_step b1 k1))
  clear mr b1 k1 HD hW1 HKB HKR i0 i1 i2 i3 EW
  go_wp2
  rw [EW1.out]
  exact bodyPost_ret (zback1 Try.results55 (RR.out.set _ _) _ (by rfl) (by rfl)) rfl (gz1_end (B := W0.heap.size) ZR.out B1.out (by omega) (by omega))

theorem euclid_bits {z y : Int} (hy : y ≠ 0) : (z.tmod y < 0 → z.tmod y + (y.natAbs : Int) = z % y) ∧ (¬ z.tmod y < 0 → z.tmod y = z % y) := by
  have h1 := Int.tmod_eq_emod (a := z) (b := y)
  have h2 := Int.emod_nonneg z hy
  have h3 : z % y < (y.natAbs : Int) := by
    by_cases h : 0 < y
    · have := Int.emod_lt_of_pos z h
      omega
    · have := Int.emod_lt_of_pos z (b := -y) (by omega)
      rw [Int.emod_neg] at this
      omega
  split at h1 <;> constructor <;> intro h <;> omega
theorem mod_z {w : World} {v u : Value} {z y : Int} {k l : Nat} (h0 : Zi w v z k) (h1 : Zi w u y l) (hy : y ≠ 0) (hk : k ≤ 1099511627776) (hl : l ≤ 1099511627776) :
    Calls Try.prog 55 #[v, u] w (GivesZ1 0 w (z % y) (max k l + 1)) := by
  by_cases hs : z.tmod y < 0
  · rw [← (euclid_bits hy).1 hs]
    exact mod_of h0 h1 fun w' h h' => euclid_neg h h' hy hk hl (cmpI_neg hs)
  · rw [← (euclid_bits hy).2 hs]
    refine (mod_of h0 h1 fun w' h h' => euclid_pos h h' hy hk hl (cmpI_nonneg (by omega))).mono fun e w' ⟨r, q1, q2, q3⟩ => ⟨r, q1, q2.more (by omega), q3⟩
theorem mod_none {w : World} {v u : Value} {z y : Int} {k l : Nat} (h0 : Zi w v z k) (h1 : Zi w u y l) (hy : y = 0) :
    Calls Try.prog 55 #[v, u] w (GivesZ1 4 w 0 k) := mod_of h0 h1 fun w' h h' => euclid_zero h h' hy
/-- The residue that is nearest to 0. -/
def symv (z y : Int) : Int := if (y.natAbs : Int) < ((z % y + z % y).natAbs : Int) then z % y - (y.natAbs : Int) else z % y
end Go.Proofs.Ytkikiddoiigbjaa

/- Zlaw0 -/
namespace Go.Proofs.Ytkikiddoiigbjaa
open Go.RowKit
set_option linter.unusedVariables false

theorem below_more {w0 w : World} {o : Obj} (h : Below w0.heap.size w0 w) : Below w0.heap.size w0 (w.alloc o) := h.alloc h.size o
theorem zm_zero {B : Nat} {w : World} {n : Bool} {xs : List Int} {a : Option Addr} {c k : Nat} {z : Int} (h : Zm B w (.agg #[.bool n, .slice a xs.length c]) z k) (hz : z = 0) : n = false ∧ xs = [] := by
  obtain ⟨n', xs', a', c', h1, h2, h3, h4, h5, h6⟩ := h
  simp only [Value.agg.injEq, Array.mk.injEq, List.cons.injEq, Value.bool.injEq, Value.slice.injEq, and_true] at h1
  obtain ⟨rfl, rfl, h7, rfl⟩ := h1
  have h0 : val xs' = 0 := by rw [hz] at h5; cases n <;> simp [iv] at h5 <;> exact h5
  have e : xs' = [] := canon_zero h3 h0
  subst e
  exact ⟨h4 rfl, List.eq_nil_of_length_eq_zero h7⟩
theorem zl_three {w : World} {x0 y0 x1 y1 x2 y2 : Value} {A B C : Int} {k : Nat} (ha : Zi w (.agg #[x0, y0]) A k) (hb : Zi w (.agg #[x1, y1]) B k) (hc : Zi w (.agg #[x2, y2]) C k) :
    Zl (w.alloc (.cells #[x0, y0, x1, y1, x2, y2] 25)) (.slice (some ⟨w.heap.size, 0, none⟩) 3 3) [A, B, C] k := by
  have b0 : Below w.heap.size w (w.alloc (.cells #[x0, y0, x1, y1, x2, y2] 25)) := (Below.refl _ _).alloc (Nat.le_refl _) _
  have h := heap_alloc_new w (.cells #[x0, y0, x1, y1, x2, y2] 25)
  have sz : w.heap.size < (w.alloc (.cells #[x0, y0, x1, y1, x2, y2] 25)).heap.size := by simp
  generalize w.alloc (.cells #[x0, y0, x1, y1, x2, y2] 25) = W at *
  refine ⟨_, 3, rfl, by simp, by simp, .inr ⟨w.heap.size, 0, rfl, sz, fun j hj => ?_⟩⟩
  simp only [List.length_cons, List.length_nil] at hj
  rcases (show j = 0 ∨ j = 1 ∨ j = 2 by omega) with rfl | rfl | rfl
  · exact ⟨x0, y0, by simp [World.cell?, h], by simp [World.cell?, h], ha.now b0⟩
  · exact ⟨x1, y1, by simp [World.cell?, h], by simp [World.cell?, h], hb.now b0⟩
  · exact ⟨x2, y2, by simp [World.cell?, h], by simp [World.cell?, h], hc.now b0⟩
theorem int_as {F : FuncId} {args : Array Value} {w : World} {X Y : Int} (h : Calls Try.prog F args w fun e w' => e = .returned (.int .i64 X) ∧ Below w.heap.size w w') (e : X = Y) : Calls Try.prog F args w fun e w' => e = .returned (.int .i64 Y) ∧ Below w.heap.size w w' := by
  subst e; exact h
theorem wrap_mul {x y : Int} (hx : -1 ≤ x ∧ x ≤ 1) (hy : -1 ≤ y ∧ y ≤ 1) : IntKind.i64.wrap (x * y) = x * y := by
  obtain ⟨h1, h2⟩ := hx
  obtain ⟨h3, h4⟩ := hy
  rcases (show x = -1 ∨ x = 0 ∨ x = 1 by omega) with rfl | rfl | rfl <;> rw [wrap_is] <;> omega
theorem cmp_cases (a b : Int) : (a < b ∧ cmpI a b = -1) ∨ (a = b ∧ cmpI a b = 0) ∨ (b < a ∧ cmpI a b = 1) := by
  rcases Int.lt_trichotomy a b with h | h | h
  · exact .inl ⟨h, cmpI_lt h⟩
  · subst h; exact .inr (.inl ⟨rfl, cmpI_self a⟩)
  · exact .inr (.inr ⟨h, cmpI_gt h⟩)
end Go.Proofs.Ytkikiddoiigbjaa

/- ZDivs -/
namespace Go.Proofs.Ytkikiddoiigbjaa
open Go.RowKit
set_option linter.unusedVariables false

theorem alloc1 (w : World) (o1 : Obj) : Below w.heap.size w (w.alloc o1) ∧ (w.alloc o1).heap.size = w.heap.size + 1 := ⟨(Below.refl _ _).alloc (Nat.le_refl _) _, by simp⟩
def fdv (z y : Int) : Int := if cmpI (z.tmod y) 0 * cmpI y 0 < 0 then z.tdiv y - 1 else z.tdiv y
def fmd (z y : Int) : Int := if cmpI (z.tmod y) 0 * cmpI y 0 < 0 then z.tmod y + y else z.tmod y
def edv (z y : Int) : Int := if cmpI (z.tmod y) 0 < 0 then z.tdiv y - cmpI y 0 else z.tdiv y
theorem euclid_z {w : World} {v u : Value} {z y : Int} {k l : Nat} (h0 : Zi w v z k) (h1 : Zi w u y l) (hy : y ≠ 0) (hk : k ≤ 1099511627776) (hl : l ≤ 1099511627776) :
    Calls Try.prog 37 #[v, u] w (GivesZ2 0 w (edv z y) (z % y) (max k 1 + 1) (max k l + 1)) := by
  unfold edv
  by_cases hs : z.tmod y < 0
  · have hc := cmpI_neg hs
    rw [if_pos hc, ← (euclid_bits hy).1 hs]
    exact euclid_neg h0 h1 hy hk hl hc
  · have hc := cmpI_nonneg (a := z.tmod y) (b := 0) (by omega)
    rw [if_neg hc, ← (euclid_bits hy).2 hs]
    exact (euclid_pos h0 h1 hy hk hl hc).mono fun e w' ⟨rq, rr, q1, q2, q3, q4⟩ => ⟨rq, rr, q1, q2.more (by omega), q3.more (by omega), q4⟩
theorem exact_none {w : World} {v u : Value} {z y : Int} {k l : Nat} (h0 : Zi w v z k) (h1 : Zi w u y l) (hy : y = 0) : Calls Try.prog 30 #[v, u] w (GivesZ1 4 w 0 k) :=
  (exact_zero_z h0 h1 hy).mono fun e w' ⟨h1, h2⟩ => ⟨_, h1, zm_nil _ _ _, h2⟩
theorem exact_yes {w : World} {v u : Value} {z y : Int} {k l : Nat} (h0 : Zi w v z k) (h1 : Zi w u y l) (hy : y ≠ 0) (hk : k ≤ 1099511627776) (hl : l ≤ 1099511627776) (hr : z.tmod y = 0) : Calls Try.prog 30 #[v, u] w (GivesZ1 0 w (z.tdiv y) k) :=
  (exact_z h0 h1 hy hk hl).mono fun e w' h => by
    rcases h with ⟨_, h⟩ | ⟨h, _⟩
    · exact h
    · exact absurd hr h
theorem exact_no {w : World} {v u : Value} {z y : Int} {k l : Nat} (h0 : Zi w v z k) (h1 : Zi w u y l) (hy : y ≠ 0) (hk : k ≤ 1099511627776) (hl : l ≤ 1099511627776) (hr : z.tmod y ≠ 0) : Calls Try.prog 30 #[v, u] w (GivesZ1 8 w 0 k) :=
  (exact_z h0 h1 hy hk hl).mono fun e w' h => by
    rcases h with ⟨h, _⟩ | ⟨_, h1, h2⟩
    · exact absurd h hr
    · exact ⟨_, h1, zm_nil _ _ _, h2⟩

theorem tmod_small {z y : Int} (hy : y ≠ 0) : ((z.tmod y).natAbs : Int) < (y.natAbs : Int) ∧ (0 ≤ z → 0 ≤ z.tmod y) ∧ (z ≤ 0 → z.tmod y ≤ 0) ∧ z.tdiv y * y + z.tmod y = z := by
  have h0 : z.tdiv y * y + z.tmod y = z := by rw [Int.mul_comm]; exact Int.mul_tdiv_add_tmod z y
  have h1 := Int.tmod_eq_emod (a := z) (b := y)
  have h2 := Int.emod_nonneg z hy
  have h3 : z % y < (y.natAbs : Int) := by
    by_cases h : 0 < y
    · have := Int.emod_lt_of_pos z h
      omega
    · have := Int.emod_lt_of_pos z (b := -y) (by omega)
      rw [Int.emod_neg] at this
      omega
  have h4 : 0 ≤ z → 0 ≤ z.tmod y := fun h => by
    rw [if_pos (.inl h)] at h1
    omega
  have h5 : z ≤ 0 → z.tmod y ≤ 0 := fun h => by
    have h6 := Int.tmod_eq_emod (a := -z) (b := y)
    rw [if_pos (.inl (by omega)), Int.neg_tmod] at h6
    have h7 := Int.emod_nonneg (-z) hy
    omega
  refine ⟨?_, h4, h5, h0⟩
  by_cases h : 0 ≤ z
  · rw [if_pos (.inl h)] at h1
    omega
  · have h6 := Int.tmod_eq_emod (a := -z) (b := y)
    rw [if_pos (.inl (by omega)), Int.neg_tmod] at h6
    have h7 := Int.emod_nonneg (-z) hy
    have h8 : (-z) % y < (y.natAbs : Int) := by
      by_cases h : 0 < y
      · have := Int.emod_lt_of_pos (-z) h
        omega
      · have := Int.emod_lt_of_pos (-z) (b := -y) (by omega)
        rw [Int.emod_neg] at this
        omega
    omega
/-- All that the law asks of the three divisions. -/
structure Divs (A B : Int) : Prop where
  t1 : A.tdiv B * B + A.tmod B = A
  t2 : ((A.tmod B).natAbs : Int) < (B.natAbs : Int)
  t3 : ¬ cmpI (A.tmod B) 0 * cmpI A 0 < 0
  f1 : fdv A B * B + fmd A B = A
  f2 : ((fmd A B).natAbs : Int) < (B.natAbs : Int)
  f3 : ¬ cmpI (fmd A B) 0 * cmpI B 0 < 0
  e1 : edv A B * B + A % B = A
  e2 : 0 ≤ A % B ∧ A % B < (B.natAbs : Int)
  n1 : A.tmod B ≠ 0 → fmd A B ≠ 0 ∧ A % B ≠ 0
  n2 : A.tmod B = 0 → fdv A B = A.tdiv B ∧ edv A B = A.tdiv B
theorem sign_cases (x : Int) : (x < 0 ∧ cmpI x 0 = -1) ∨ (x = 0 ∧ cmpI x 0 = 0) ∨ (0 < x ∧ cmpI x 0 = 1) := cmp_cases x 0
theorem sgn_prod (R B : Int) : cmpI R 0 * cmpI B 0 < 0 ↔ ((R < 0 ∧ 0 < B) ∨ (0 < R ∧ B < 0)) := by
  rcases sign_cases R with ⟨r1, r2⟩ | ⟨r1, r2⟩ | ⟨r1, r2⟩ <;> rcases sign_cases B with ⟨b1, b2⟩ | ⟨b1, b2⟩ | ⟨b1, b2⟩ <;> rw [r2, b2] <;> omega
theorem sgn_abs (B : Int) : cmpI B 0 * B = (B.natAbs : Int) := by
  rcases sign_cases B with ⟨b1, b2⟩ | ⟨b1, b2⟩ | ⟨b1, b2⟩ <;> rw [b2] <;> omega
theorem sgn_neg (R : Int) : cmpI R 0 < 0 ↔ R < 0 := by
  rcases sign_cases R with ⟨r1, r2⟩ | ⟨r1, r2⟩ | ⟨r1, r2⟩ <;> rw [r2] <;> omega
theorem divs {A B : Int} (hB : B ≠ 0) : Divs A B := by
  obtain ⟨h1, h2, h3, h4⟩ := tmod_small (z := A) hB
  obtain ⟨h5, h5'⟩ := euclid_bits (z := A) hB
  have h6 := Int.emod_nonneg A hB
  have hs := sgn_abs B
  refine ⟨h4, h1, ?_, ?_, ?_, ?_, ?_, ⟨h6, ?_⟩, ?_, ?_⟩
  · rw [sgn_prod]; omega
  · unfold fdv fmd
    split
    · rw [Int.sub_mul]; omega
    · exact h4
  · unfold fmd
    split
    · rename_i h
      rw [sgn_prod] at h
      omega
    · exact h1
  · rw [sgn_prod]
    unfold fmd
    split <;> rename_i h <;> rw [sgn_prod] at h <;> omega
  · unfold edv
    split <;> rename_i h <;> rw [sgn_neg] at h
    · rw [Int.sub_mul, hs, ← h5 h]; omega
    · rw [← h5' h]; exact h4
  · by_cases h : A.tmod B < 0
    · rw [← h5 h]; omega
    · rw [← h5' h]; omega
  · intro hR
    refine ⟨?_, ?_⟩
    · unfold fmd
      split
      · omega
      · exact hR
    · by_cases h : A.tmod B < 0
      · rw [← h5 h]; omega
      · rw [← h5' h]; exact hR
  · intro hR
    refine ⟨?_, ?_⟩
    · unfold fdv
      rw [if_neg]
      rw [sgn_prod]; omega
    · unfold edv
      rw [if_neg]
      rw [sgn_neg]; omega

end Go.Proofs.Ytkikiddoiigbjaa

/- ExtPure -/
namespace Go.Proofs.Ytkikiddoiigbjaa
open Go.RowKit
set_option linter.unusedVariables false

/-- What Ext answers. -/
structure ExtV (A B g x y : Int) : Prop where
  gcd : g = (Int.gcd A B : Int)
  lin : A * x + B * y = g
  rng : B ≠ 0 → 0 ≤ x ∧ x * g < (B.natAbs : Int)
  zero : B = 0 → x = cmpI A 0 ∧ y = 0

/-- What stands at the head of Ext's loop. -/
structure ExtI (A B a b x0 y0 x1 y1 : Int) : Prop where
  ea : a = A * x0 + B * y0
  eb : b = A * x1 + B * y1
  det : x0 * y1 - x1 * y0 = 1 ∨ x0 * y1 - x1 * y0 = -1
  g : Int.gcd a b = Int.gcd A B
  bx : x1.natAbs * a.natAbs + x0.natAbs * b.natAbs ≤ B.natAbs
  by' : y1.natAbs * a.natAbs + y0.natAbs * b.natAbs ≤ A.natAbs
  cx0 : x0.natAbs ≤ max 1 B.natAbs
  cx1 : x1.natAbs ≤ max 1 B.natAbs
  cy0 : y0.natAbs ≤ max 1 A.natAbs
  cy1 : y1.natAbs ≤ max 1 A.natAbs
  zz : B = 0 → x0 = 1 ∧ y0 = 0 ∧ x1 = 0
theorem extI_start (A B : Int) : ExtI A B A B 1 0 0 1 := by
  refine ⟨by omega, by omega, .inl (by omega), rfl, by simp, by simp, ?_, ?_, ?_, ?_, fun _ => ⟨rfl, rfl, rfl⟩⟩ <;> simp <;> omega
theorem gcd_tmod (a b : Int) : Int.gcd b (a.tmod b) = Int.gcd a b := by
  unfold Int.gcd
  rw [Int.natAbs_tmod, Nat.gcd_comm a.natAbs b.natAbs]
  exact (Nat.gcd_rec b.natAbs a.natAbs ▸ Nat.gcd_comm _ _)
theorem natAbs_split (a b : Int) : a.natAbs = (a.tdiv b).natAbs * b.natAbs + (a.tmod b).natAbs := by
  rw [Int.natAbs_tmod, Int.natAbs_tdiv]
  exact (Nat.div_add_mod' a.natAbs b.natAbs).symm
theorem mul_natAbs_le {x q y : Int} : (x - q * y).natAbs ≤ x.natAbs + q.natAbs * y.natAbs := by
  have := Int.natAbs_sub_le x (q * y)
  rwa [Int.natAbs_mul] at this
theorem step_bound {x0 x1 q a b r B : Nat} {n : Nat} (hn : n ≤ x0 + q * x1) (ha : a = q * b + r) (h : x1 * a + x0 * b ≤ B) : n * b + x1 * r ≤ B := by
  have h1 : n * b ≤ (x0 + q * x1) * b := Nat.mul_le_mul_right b hn
  have h2 : (x0 + q * x1) * b + x1 * r = x1 * a + x0 * b := by
    subst ha
    simp only [Nat.add_mul, Nat.mul_add]
    have : q * x1 * b = x1 * (q * b) := by rw [Nat.mul_comm q x1, Nat.mul_assoc]
    omega
  omega
theorem le_of_mul_add {n b m B : Nat} (hb : b ≠ 0) (h : n * b + m ≤ B) : n ≤ B := by
  have : n * 1 ≤ n * b := Nat.mul_le_mul_left n (by omega)
  omega
theorem ExtI.step {A B a b x0 y0 x1 y1 : Int} (h : ExtI A B a b x0 y0 x1 y1) (hb : b ≠ 0) :
    ExtI A B b (a.tmod b) x1 y1 (x0 - a.tdiv b * x1) (y0 - a.tdiv b * y1) ∧ (a.tmod b).natAbs < b.natAbs := by
  obtain ⟨ea, eb, det, g, bx, by', cx0, cx1, cy0, cy1, zz⟩ := h
  have hd := (tmod_small (z := a) hb).2.2.2
  have hs := natAbs_split a b
  have hbn : b.natAbs ≠ 0 := by omega
  have nx := step_bound (mul_natAbs_le (x := x0) (q := a.tdiv b) (y := x1)) hs bx
  have ny := step_bound (mul_natAbs_le (x := y0) (q := a.tdiv b) (y := y1)) hs by'
  refine ⟨⟨eb, ?_, ?_, (gcd_tmod a b).trans g, nx, ny, cx1, ?_, cy1, ?_, ?_⟩, ?_⟩
  · generalize a.tdiv b = q at *
    generalize a.tmod b = r at *
    have : r = a - q * b := by omega
    rw [this, ea, eb]
    grind
  · generalize a.tdiv b = q at *
    rcases det with d | d
    · exact .inr (by grind)
    · exact .inl (by grind)
  · exact Nat.le_trans (le_of_mul_add hbn nx) (Nat.le_max_right _ _)
  · exact Nat.le_trans (le_of_mul_add hbn ny) (Nat.le_max_right _ _)
  · intro e
    obtain ⟨q1, q2, _⟩ := zz e
    subst e
    rw [q1] at bx
    simp at bx
    omega
  · rw [Int.natAbs_tmod]
    exact Nat.mod_lt _ (by omega)
/-- Where the loop ends. -/
theorem ExtI.last {A B a x0 y0 x1 y1 : Int} (h : ExtI A B a 0 x0 y0 x1 y1) :
    (a.natAbs : Int) = (Int.gcd A B : Int) ∧ a.natAbs * x1.natAbs = B.natAbs ∧ A * x1 + B * y1 = 0 ∧ A * (x0 * cmpI a 0) + B * (y0 * cmpI a 0) = (a.natAbs : Int) := by
  obtain ⟨ea, eb, det, g, bx, by', cx0, cx1, cy0, cy1, zz⟩ := h
  refine ⟨?_, ?_, by omega, ?_⟩
  · rw [← g]; simp
  · have e : a * x1 = -(B * (x0 * y1 - x1 * y0)) := by rw [ea]; grind
    rw [← Int.natAbs_mul, e]
    rcases det with d | d <;> rw [d] <;> simp
  · rw [show A * (x0 * cmpI a 0) + B * (y0 * cmpI a 0) = (A * x0 + B * y0) * cmpI a 0 by grind, ← ea, Int.mul_comm]
    exact sgn_abs a
/-- The divisor 0 of the last step: the number itself. -/
theorem ExtI.none {A a x0 y0 x1 y1 : Int} (h : ExtI A 0 a 0 x0 y0 x1 y1) : ExtV A 0 (a.natAbs : Int) (x0 * cmpI a 0) (y0 * cmpI a 0) := by
  obtain ⟨l1, l2, l3, l4⟩ := h.last
  obtain ⟨q1, q2, _⟩ := h.zz rfl
  have ea := h.ea
  refine ⟨l1, l4, fun e => absurd rfl e, fun _ => ?_⟩
  subst q1 q2
  have : a = A := by omega
  subst this
  simp
theorem ExtI.some {A B a x0 y0 x1 y1 : Int} (h : ExtI A B a 0 x0 y0 x1 y1) (hB : B ≠ 0) : x1 ≠ 0 ∧ ∀ t l : Int, t * x1 + l = x0 * cmpI a 0 → 0 ≤ l → l < (x1.natAbs : Int) → ExtV A B (a.natAbs : Int) l (y0 * cmpI a 0 - t * y1) := by
  obtain ⟨l1, l2, l3, l4⟩ := h.last
  have hx : x1 ≠ 0 := fun e => by subst e; simp at l2; omega
  refine ⟨hx, fun t l ht h0 hl => ⟨l1, ?_, fun _ => ⟨h0, ?_⟩, fun e => absurd e hB⟩⟩
  · rw [← l4, ← ht]
    have e : A * l + B * (y0 * cmpI a 0 - t * y1) = A * (t * x1 + l) + B * (y0 * cmpI a 0) - t * (A * x1 + B * y1) := by grind
    rw [e, l3]
    omega
  · have ha : 0 < a.natAbs := Nat.pos_of_ne_zero (fun e => by rw [e] at l2; simp at l2; omega)
    have e : (B.natAbs : Int) = (x1.natAbs : Int) * (a.natAbs : Int) := by rw [← l2]; push_cast; exact Int.mul_comm _ _
    rw [e]
    exact Int.mul_lt_mul_of_pos_right hl (by omega)
/-- The second multiplier is small, too. -/
theorem ExtV.small {A B g x y : Int} (h : ExtV A B g x y) : x.natAbs ≤ max 1 B.natAbs ∧ y.natAbs ≤ max 1 A.natAbs ∧ (A ≠ 0 → B ≠ 0 → y.natAbs * g.natAbs ≤ A.natAbs) := by
  obtain ⟨hg, hl, hr, hz⟩ := h
  have bc := cmpI_bound A 0
  by_cases hB : B = 0
  · obtain ⟨q1, q2⟩ := hz hB
    subst q1 q2
    exact ⟨by omega, by simp, fun _ e => absurd hB e⟩
  · obtain ⟨x0, xg⟩ := hr hB
    have gB : g.natAbs ∣ B.natAbs := by rw [hg]; exact Nat.gcd_dvd_right _ _
    have gA : g.natAbs ∣ A.natAbs := by rw [hg]; exact Nat.gcd_dvd_left _ _
    have g0 : 0 < g := by
      have : 0 < Int.gcd A B := Int.gcd_pos_of_ne_zero_right A hB
      omega
    have x1 : x.natAbs ≤ B.natAbs := by
      have : x * 1 ≤ x * g := Int.mul_le_mul_of_nonneg_left (by omega) x0
      omega
    refine ⟨by omega, ?_⟩
    obtain ⟨u, hu⟩ := gA
    obtain ⟨v, hv⟩ := gB
    have hv0 : 0 < v := Nat.pos_of_ne_zero (fun e => by rw [e] at hv; simp at hv; omega)
    have gn : 0 < g.natAbs := by omega
    have xv : x.natAbs + 1 ≤ v := by
      have h1 : x.natAbs * g.natAbs < g.natAbs * v := by
        rw [← hv, ← Int.natAbs_mul]
        have := Int.mul_nonneg x0 (Int.le_of_lt g0)
        omega
      rw [Nat.mul_comm g.natAbs v] at h1
      exact Nat.lt_of_mul_lt_mul_right h1
    have e : B.natAbs * y.natAbs ≤ g.natAbs + A.natAbs * x.natAbs := by
      have : B * y = g - A * x := by omega
      rw [← Int.natAbs_mul, this, ← Int.natAbs_mul]
      exact Int.natAbs_sub_le _ _
    -- v |y| <= 1 + u |x| <= 1 + u (v - 1)
    have e2 : v * y.natAbs ≤ 1 + u * x.natAbs := by
      rw [hv, hu, Nat.mul_assoc, Nat.mul_assoc] at e
      have e3 : g.natAbs * (v * y.natAbs) ≤ g.natAbs * (1 + u * x.natAbs) := by rw [Nat.mul_add, Nat.mul_one]; exact e
      exact Nat.le_of_mul_le_mul_left e3 gn
    have e4 : u * x.natAbs + u ≤ u * v := by
      have := Nat.mul_le_mul_left u xv
      rw [Nat.mul_add, Nat.mul_one] at this
      exact this
    by_cases hA : A = 0
    · have u0 : u = 0 := by
        rcases Nat.mul_eq_zero.1 (show g.natAbs * u = 0 by rw [← hu, hA]; rfl) with q | q <;> omega
      subst u0
      refine ⟨?_, fun q => absurd hA q⟩
      have : 1 * y.natAbs ≤ v * y.natAbs := Nat.mul_le_mul_right _ hv0
      omega
    · have u1 : 1 ≤ u := Nat.pos_of_ne_zero (fun q => by rw [q] at hu; simp at hu; omega)
      have yu : y.natAbs ≤ u := by
        have : v * y.natAbs ≤ v * u := by rw [Nat.mul_comm v u]; omega
        exact Nat.le_of_mul_le_mul_left this hv0
      have uA : u ≤ A.natAbs := by
        rw [hu]
        have := Nat.mul_le_mul_right u (show 1 ≤ g.natAbs by omega)
        omega
      refine ⟨by omega, fun _ _ => ?_⟩
      rw [hu, Nat.mul_comm]
      exact Nat.mul_le_mul_left _ yu
end Go.Proofs.Ytkikiddoiigbjaa
