/-
  QGcdAllToExtPure: GcdAll, ExtPure, joined.
-/
import Derived.Test.YtakkmpkkoecnhaaQDivMod
import Derived.Test.YtakkmpkkoecnhaaQUnit9ToMWord
import Derived.Test.YtakkmpkkoecnhaaQMadeToLen2
import Derived.Deep.RegionHeld3
import Derived.Deep.LoopGhost

/- GcdAll -/
namespace Go.Proofs.Ytakkmpkkoecnhaa
open Go.RowKit
set_option linter.unusedVariables false

/- Lehmer -/

def ig (u v : Int) : Nat := Nat.gcd u.toNat v.toNat
theorem ig_step {u v q r : Int} (hu : 0 ≤ u) (hv : 0 < v) (hr0 : 0 ≤ r) (hr1 : r < v) (h : u - q * v = r) : ig v r = ig u v := by
  obtain ⟨U, rfl⟩ := Int.eq_ofNat_of_zero_le hu
  obtain ⟨V, rfl⟩ := Int.eq_ofNat_of_zero_le (Int.le_of_lt hv)
  obtain ⟨R, rfl⟩ := Int.eq_ofNat_of_zero_le hr0
  have hm : U % V = R := by
    have h1 : ((U % V : Nat) : Int) = (U : Int) % (V : Int) := by simp
    have h2 : (U : Int) % (V : Int) = (R : Int) := by
      have e : (U : Int) = (R : Int) + (V : Int) * q := by rw [Int.mul_comm]; omega
      rw [e, Int.add_mul_emod_self_left, Int.emod_eq_of_lt hr0 hr1]
    omega
  unfold ig
  simp only [Int.toNat_natCast]
  rw [← hm, Nat.gcd_comm U V, Nat.gcd_rec V U, Nat.gcd_comm]

/-- Where the steps by heads stand. -/
def LehAt (xh yh A B C D x y : Int) : Prop :=
  x = A * xh + B * yh ∧ y = C * xh + D * yh ∧ (0 ≤ x + A ∧ x + A ≤ 1152921504606846976) ∧ (0 ≤ x + B ∧ x + B ≤ 1152921504606846976) ∧ (0 ≤ y + C ∧ y + C ≤ 1152921504606846976) ∧ (0 ≤ y + D ∧ y + D ≤ 1152921504606846976) ∧
    ((0 ≤ A ∧ B ≤ 0 ∧ C ≤ 0 ∧ 0 ≤ D) ∨ (A ≤ 0 ∧ 0 ≤ B ∧ 0 ≤ C ∧ D ≤ 0))
theorem LehAt.start {xh yh : Int} (h0 : 0 ≤ xh) (h1 : xh < 1152921504606846976) (k0 : 0 ≤ yh) (k1 : yh < 1152921504606846976) : LehAt xh yh 1 0 0 1 xh yh :=
  ⟨by omega, by omega, by omega, by omega, by omega, by omega, .inl (by omega)⟩
theorem LehAt.step {xh yh A B C D x y q : Int} (h : LehAt xh yh A B C D x y) (hc : 0 < y + C) (hd : 0 < y + D) (h1 : (x + A) / (y + C) = q) (h2 : (x + B) / (y + D) = q) :
    LehAt xh yh C D (A - q * C) (B - q * D) y (x - q * y) ∧ 0 ≤ q ∧ (x - q * y) + (A - q * C) < y + C ∧ (x - q * y) + (B - q * D) < y + D := by
  obtain ⟨e1, e2, a1, a2, a3, a4, a5⟩ := h
  have q0 : 0 ≤ q := by rw [← h1]; exact Int.ediv_nonneg a1.1 (by omega)
  have m1 := Int.mul_ediv_add_emod (x + A) (y + C)
  have m2 := Int.mul_ediv_add_emod (x + B) (y + D)
  have n1 := Int.emod_nonneg (x + A) (show y + C ≠ 0 by omega)
  have n2 := Int.emod_lt_of_pos (x + A) hc
  have n3 := Int.emod_nonneg (x + B) (show y + D ≠ 0 by omega)
  have n4 := Int.emod_lt_of_pos (x + B) hd
  rw [h1, Int.add_mul] at m1
  rw [h2, Int.add_mul] at m2
  rw [Int.mul_comm q C, Int.mul_comm q D, Int.mul_comm q y]
  have c1 : 0 ≤ q * (-C) ∨ 0 ≤ q * C := by
    rcases a5 with a5 | a5
    · exact .inl (Int.mul_nonneg q0 (by omega))
    · exact .inr (Int.mul_nonneg q0 (by omega))
  refine ⟨⟨e2, ?_, by omega, by omega, by omega, by omega, ?_⟩, q0, by omega, by omega⟩
  · rw [e1, e2]
    grind
  · rcases a5 with a5 | a5
    · right
      have k1 := Int.mul_nonneg q0 (show 0 ≤ -C by omega)
      have k2 := Int.mul_nonneg q0 a5.2.2.2
      rw [Int.mul_neg, Int.mul_comm] at k1
      rw [Int.mul_comm] at k2
      omega
    · left
      have k1 := Int.mul_nonneg q0 (show 0 ≤ -D by omega)
      have k2 := Int.mul_nonneg q0 a5.2.2.1
      rw [Int.mul_neg, Int.mul_comm] at k1
      rw [Int.mul_comm] at k2
      omega

/-- A number by its head, between its ends. -/
theorem leh_ends {P al be S T X : Int} (hP : 0 < P) (a0 : 0 ≤ al) (a1 : al < P) (b0 : 0 ≤ be) (b1 : be < P) (hS : 0 ≤ S) (hT : T ≤ 0) : P * (X + T) ≤ P * X + (S * al + T * be) ∧ P * X + (S * al + T * be) ≤ P * (X + S) := by
  have k1 := Int.mul_nonneg hS a0
  have k2 := Int.mul_le_mul_of_nonneg_left (Int.le_of_lt a1) hS
  have k3 := Int.mul_nonneg (show 0 ≤ -T by omega) b0
  have k4 := Int.mul_le_mul_of_nonneg_left (Int.le_of_lt b1) (show 0 ≤ -T by omega)
  rw [Int.neg_mul] at k3 k4
  rw [Int.neg_mul] at k4
  rw [Int.mul_add, Int.mul_add, Int.mul_comm P T, Int.mul_comm P S]
  omega
def EucAt (xh yh A B C D : Int) : Prop := ∀ P al be : Int, 0 < P → 0 ≤ al → al < P → 0 ≤ be → be < P →
  0 ≤ A * (xh * P + al) + B * (yh * P + be) ∧ 0 ≤ C * (xh * P + al) + D * (yh * P + be) ∧ ig (A * (xh * P + al) + B * (yh * P + be)) (C * (xh * P + al) + D * (yh * P + be)) = ig (xh * P + al) (yh * P + be) ∧
    ((A = 1 ∧ B = 0 ∧ C = 0 ∧ D = 1) ∨ (C ≠ 0 ∧ C * (xh * P + al) + D * (yh * P + be) < A * (xh * P + al) + B * (yh * P + be) ∧ C * (xh * P + al) + D * (yh * P + be) < yh * P + be ∧ A * (xh * P + al) + B * (yh * P + be) ≤ yh * P + be))
theorem EucAt.start {xh yh : Int} (h0 : 0 ≤ xh) (k0 : 0 ≤ yh) : EucAt xh yh 1 0 0 1 := fun P al be hP a0 a1 b0 b1 => by
  have m1 := Int.mul_nonneg h0 (Int.le_of_lt hP)
  have m2 := Int.mul_nonneg k0 (Int.le_of_lt hP)
  have e1 : 1 * (xh * P + al) + 0 * (yh * P + be) = xh * P + al := by omega
  have e2 : 0 * (xh * P + al) + 1 * (yh * P + be) = yh * P + be := by omega
  rw [e1, e2]
  exact ⟨by omega, by omega, rfl, .inl ⟨rfl, rfl, rfl, rfl⟩⟩
theorem leh_form (A B xh yh P al be x : Int) (h : x = A * xh + B * yh) : A * (xh * P + al) + B * (yh * P + be) = P * x + (A * al + B * be) := by
  subst h
  grind
theorem leh_form' (A B xh yh P al be x : Int) (h : x = A * xh + B * yh) : A * (xh * P + al) + B * (yh * P + be) = P * x + (B * be + A * al) := by
  subst h
  grind
theorem leh_rest {xh yh A B C D x y q P al be : Int} (h : LehAt xh yh A B C D x y) (hc : 0 < y + C) (hd : 0 < y + D) (h1 : (x + A) / (y + C) = q) (h2 : (x + B) / (y + D) = q) (hP : 0 < P) (a0 : 0 ≤ al) (a1 : al < P) (b0 : 0 ≤ be) (b1 : be < P) :
    0 < C * (xh * P + al) + D * (yh * P + be) ∧ 0 ≤ (A - q * C) * (xh * P + al) + (B - q * D) * (yh * P + be) ∧ (A - q * C) * (xh * P + al) + (B - q * D) * (yh * P + be) < C * (xh * P + al) + D * (yh * P + be) := by
  obtain ⟨hn, q0, l1, l2⟩ := h.step hc hd h1 h2
  obtain ⟨_, f2, _, _, n3, n4, n5⟩ := hn
  obtain ⟨_, e2, _, _, _, _, a5⟩ := h
  rcases a5 with a5 | a5
  · -- C ≤ 0 ≤ D
    have v := leh_ends (X := y) hP b0 b1 a0 a1 a5.2.2.2 a5.2.2.1
    rw [leh_form' C D xh yh P al be y e2]
    have hs : 0 ≤ A - q * C ∧ B - q * D ≤ 0 := by
      have k1 := Int.mul_nonneg q0 (show 0 ≤ -C by omega)
      have k2 := Int.mul_nonneg q0 a5.2.2.2
      rw [Int.mul_neg] at k1
      omega
    have r := leh_ends (X := x - q * y) hP a0 a1 b0 b1 hs.1 hs.2
    rw [leh_form (A - q * C) (B - q * D) xh yh P al be (x - q * y) f2]
    have z0 := Int.mul_nonneg (Int.le_of_lt hP) n4.1
    have z1 := Int.mul_le_mul_of_nonneg_left (show (x - q * y) + (A - q * C) ≤ y + C - 1 by omega) (Int.le_of_lt hP)
    have z2 := Int.mul_pos hP hc
    rw [Int.mul_sub, Int.mul_one] at z1
    omega
  · have v := leh_ends (X := y) hP a0 a1 b0 b1 a5.2.2.1 a5.2.2.2
    rw [leh_form C D xh yh P al be y e2]
    have hs : A - q * C ≤ 0 ∧ 0 ≤ B - q * D := by
      have k1 := Int.mul_nonneg q0 (show 0 ≤ -D by omega)
      have k2 := Int.mul_nonneg q0 a5.2.2.1
      rw [Int.mul_neg] at k1
      omega
    have r := leh_ends (X := x - q * y) hP b0 b1 a0 a1 hs.2 hs.1
    rw [leh_form' (A - q * C) (B - q * D) xh yh P al be (x - q * y) f2]
    have z0 := Int.mul_nonneg (Int.le_of_lt hP) n3.1
    have z1 := Int.mul_le_mul_of_nonneg_left (show (x - q * y) + (B - q * D) ≤ y + D - 1 by omega) (Int.le_of_lt hP)
    have z2 := Int.mul_pos hP hd
    rw [Int.mul_sub, Int.mul_one] at z1
    omega
theorem leh_sub (A B C D q a b : Int) : (A - q * C) * a + (B - q * D) * b = (A * a + B * b) - q * (C * a + D * b) := by grind
theorem EucAt.step {xh yh A B C D x y q : Int} (h : LehAt xh yh A B C D x y) (he : EucAt xh yh A B C D) (hc : 0 < y + C) (hd : 0 < y + D) (h1 : (x + A) / (y + C) = q) (h2 : (x + B) / (y + D) = q) : EucAt xh yh C D (A - q * C) (B - q * D) := fun P al be hP a0 a1 b0 b1 => by
  obtain ⟨v0, r0, r1⟩ := leh_rest h hc hd h1 h2 hP a0 a1 b0 b1
  obtain ⟨u0, _, g, alt⟩ := he P al be hP a0 a1 b0 b1
  have hst := ig_step (q := q) u0 v0 r0 r1 (leh_sub A B C D q _ _).symm
  refine ⟨Int.le_of_lt v0, r0, hst.trans g, .inr ?_⟩
  have hC : A - q * C ≠ 0 := by
    rcases alt with ⟨rfl, rfl, rfl, rfl⟩ | ⟨hCn, _, _, _⟩
    · omega
    · obtain ⟨w0, s0, s1⟩ := leh_rest h hc hd h1 h2 (P := 1) (al := 0) (be := 0) (by omega) (by omega) (by omega) (by omega) (by omega)
      obtain ⟨_, _, _, alt1⟩ := he 1 0 0 (by omega) (by omega) (by omega) (by omega) (by omega)
      rw [leh_sub] at s1
      rcases alt1 with ⟨_, _, hc0, _⟩ | ⟨_, hlt, _, _⟩
      · exact absurd hc0 hCn
      · obtain ⟨_, q0, _, _⟩ := h.step hc hd h1 h2
        have hq1 : 1 ≤ q := by
          rcases Int.lt_or_eq_of_le q0 with t | t
          · omega
          · rw [← t, Int.zero_mul] at s1; omega
        obtain ⟨_, _, _, _, _, _, a5⟩ := h
        rcases a5 with a5 | a5
        · have := Int.mul_le_mul_of_nonneg_right hq1 (show 0 ≤ -C by omega)
          rw [Int.one_mul, Int.mul_neg] at this
          omega
        · have := Int.mul_le_mul_of_nonneg_right hq1 (show 0 ≤ C by omega)
          rw [Int.one_mul] at this
          omega
  refine ⟨hC, r1, ?_, ?_⟩
  · rcases alt with ⟨rfl, rfl, rfl, rfl⟩ | ⟨_, _, hb, _⟩
    · omega
    · omega
  · rcases alt with ⟨rfl, rfl, rfl, rfl⟩ | ⟨_, _, hb, _⟩
    · omega
    · omega

/- Shares -/

end Go.Proofs.Ytakkmpkkoecnhaa

/- ExtPure -/
namespace Go.Proofs.Ytakkmpkkoecnhaa
open Go.RowKit
set_option linter.unusedVariables false

/-- What Ext answers. -/
structure ExtV (A B g x y : Int) : Prop where
  gcd : g = (Int.gcd A B : Int)
  lin : A * x + B * y = g
  rng : B ≠ 0 → 0 ≤ x ∧ x * g < (B.natAbs : Int)
  zero : B = 0 → x = cmpI A 0 ∧ y = 0

/-- What stands at the head of Ext's loop. -/
structure ExtI (A B a b x0 y0 x1 y1 : Int) : Prop where
  ea : a = A * x0 + B * y0
  eb : b = A * x1 + B * y1
  det : x0 * y1 - x1 * y0 = 1 ∨ x0 * y1 - x1 * y0 = -1
  g : Int.gcd a b = Int.gcd A B
  bx : x1.natAbs * a.natAbs + x0.natAbs * b.natAbs ≤ B.natAbs
  by' : y1.natAbs * a.natAbs + y0.natAbs * b.natAbs ≤ A.natAbs
  cx0 : x0.natAbs ≤ max 1 B.natAbs
  cx1 : x1.natAbs ≤ max 1 B.natAbs
  cy0 : y0.natAbs ≤ max 1 A.natAbs
  cy1 : y1.natAbs ≤ max 1 A.natAbs
  zz : B = 0 → x0 = 1 ∧ y0 = 0 ∧ x1 = 0
theorem gcd_tmod (a b : Int) : Int.gcd b (a.tmod b) = Int.gcd a b := by
  unfold Int.gcd
  rw [Int.natAbs_tmod, Nat.gcd_comm a.natAbs b.natAbs]
  exact (Nat.gcd_rec b.natAbs a.natAbs ▸ Nat.gcd_comm _ _)
theorem natAbs_split (a b : Int) : a.natAbs = (a.tdiv b).natAbs * b.natAbs + (a.tmod b).natAbs := by
  rw [Int.natAbs_tmod, Int.natAbs_tdiv]
  exact (Nat.div_add_mod' a.natAbs b.natAbs).symm
theorem mul_natAbs_le {x q y : Int} : (x - q * y).natAbs ≤ x.natAbs + q.natAbs * y.natAbs := by
  have := Int.natAbs_sub_le x (q * y)
  rwa [Int.natAbs_mul] at this
theorem step_bound {x0 x1 q a b r B : Nat} {n : Nat} (hn : n ≤ x0 + q * x1) (ha : a = q * b + r) (h : x1 * a + x0 * b ≤ B) : n * b + x1 * r ≤ B := by
  have h1 : n * b ≤ (x0 + q * x1) * b := Nat.mul_le_mul_right b hn
  have h2 : (x0 + q * x1) * b + x1 * r = x1 * a + x0 * b := by
    subst ha
    simp only [Nat.add_mul, Nat.mul_add]
    have : q * x1 * b = x1 * (q * b) := by rw [Nat.mul_comm q x1, Nat.mul_assoc]
    omega
  omega
theorem le_of_mul_add {n b m B : Nat} (hb : b ≠ 0) (h : n * b + m ≤ B) : n ≤ B := by
  have : n * 1 ≤ n * b := Nat.mul_le_mul_left n (by omega)
  omega
theorem ExtI.step {A B a b x0 y0 x1 y1 : Int} (h : ExtI A B a b x0 y0 x1 y1) (hb : b ≠ 0) :
    ExtI A B b (a.tmod b) x1 y1 (x0 - a.tdiv b * x1) (y0 - a.tdiv b * y1) ∧ (a.tmod b).natAbs < b.natAbs := by
  obtain ⟨ea, eb, det, g, bx, by', cx0, cx1, cy0, cy1, zz⟩ := h
  have hd := (tmod_small (z := a) hb).2.2.2
  have hs := natAbs_split a b
  have hbn : b.natAbs ≠ 0 := by omega
  have nx := step_bound (mul_natAbs_le (x := x0) (q := a.tdiv b) (y := x1)) hs bx
  have ny := step_bound (mul_natAbs_le (x := y0) (q := a.tdiv b) (y := y1)) hs by'
  refine ⟨⟨eb, ?_, ?_, (gcd_tmod a b).trans g, nx, ny, cx1, ?_, cy1, ?_, ?_⟩, ?_⟩
  · generalize a.tdiv b = q at *
    generalize a.tmod b = r at *
    have : r = a - q * b := by omega
    rw [this, ea, eb]
    grind
  · generalize a.tdiv b = q at *
    rcases det with d | d
    · exact .inr (by grind)
    · exact .inl (by grind)
  · exact Nat.le_trans (le_of_mul_add hbn nx) (Nat.le_max_right _ _)
  · exact Nat.le_trans (le_of_mul_add hbn ny) (Nat.le_max_right _ _)
  · intro e
    obtain ⟨q1, q2, _⟩ := zz e
    subst e
    rw [q1] at bx
    simp at bx
    omega
  · rw [Int.natAbs_tmod]
    exact Nat.mod_lt _ (by omega)
/-- Where the loop ends. -/
theorem ExtI.last {A B a x0 y0 x1 y1 : Int} (h : ExtI A B a 0 x0 y0 x1 y1) :
    (a.natAbs : Int) = (Int.gcd A B : Int) ∧ a.natAbs * x1.natAbs = B.natAbs ∧ A * x1 + B * y1 = 0 ∧ A * (x0 * cmpI a 0) + B * (y0 * cmpI a 0) = (a.natAbs : Int) := by
  obtain ⟨ea, eb, det, g, bx, by', cx0, cx1, cy0, cy1, zz⟩ := h
  refine ⟨?_, ?_, by omega, ?_⟩
  · rw [← g]; simp
  · have e : a * x1 = -(B * (x0 * y1 - x1 * y0)) := by rw [ea]; grind
    rw [← Int.natAbs_mul, e]
    rcases det with d | d <;> rw [d] <;> simp
  · rw [show A * (x0 * cmpI a 0) + B * (y0 * cmpI a 0) = (A * x0 + B * y0) * cmpI a 0 by grind, ← ea, Int.mul_comm]
    exact sgn_abs a
/-- The divisor 0 of the last step: the number itself. -/
theorem ExtI.none {A a x0 y0 x1 y1 : Int} (h : ExtI A 0 a 0 x0 y0 x1 y1) : ExtV A 0 (a.natAbs : Int) (x0 * cmpI a 0) (y0 * cmpI a 0) := by
  obtain ⟨l1, l2, l3, l4⟩ := h.last
  obtain ⟨q1, q2, _⟩ := h.zz rfl
  have ea := h.ea
  refine ⟨l1, l4, fun e => absurd rfl e, fun _ => ?_⟩
  subst q1 q2
  have : a = A := by omega
  subst this
  simp
theorem ExtI.some {A B a x0 y0 x1 y1 : Int} (h : ExtI A B a 0 x0 y0 x1 y1) (hB : B ≠ 0) : x1 ≠ 0 ∧ ∀ t l : Int, t * x1 + l = x0 * cmpI a 0 → 0 ≤ l → l < (x1.natAbs : Int) → ExtV A B (a.natAbs : Int) l (y0 * cmpI a 0 - t * y1) := by
  obtain ⟨l1, l2, l3, l4⟩ := h.last
  have hx : x1 ≠ 0 := fun e => by subst e; simp at l2; omega
  refine ⟨hx, fun t l ht h0 hl => ⟨l1, ?_, fun _ => ⟨h0, ?_⟩, fun e => absurd e hB⟩⟩
  · rw [← l4, ← ht]
    have e : A * l + B * (y0 * cmpI a 0 - t * y1) = A * (t * x1 + l) + B * (y0 * cmpI a 0) - t * (A * x1 + B * y1) := by grind
    rw [e, l3]
    omega
  · have ha : 0 < a.natAbs := Nat.pos_of_ne_zero (fun e => by rw [e] at l2; simp at l2; omega)
    have e : (B.natAbs : Int) = (x1.natAbs : Int) * (a.natAbs : Int) := by rw [← l2]; push_cast; exact Int.mul_comm _ _
    rw [e]
    exact Int.mul_lt_mul_of_pos_right hl (by omega)
/-- The second multiplier is small, too. -/
theorem ExtV.small {A B g x y : Int} (h : ExtV A B g x y) : x.natAbs ≤ max 1 B.natAbs ∧ y.natAbs ≤ max 1 A.natAbs ∧ (A ≠ 0 → B ≠ 0 → y.natAbs * g.natAbs ≤ A.natAbs) := by
  obtain ⟨hg, hl, hr, hz⟩ := h
  have bc := cmpI_bound A 0
  by_cases hB : B = 0
  · obtain ⟨q1, q2⟩ := hz hB
    subst q1 q2
    exact ⟨by omega, by simp, fun _ e => absurd hB e⟩
  · obtain ⟨x0, xg⟩ := hr hB
    have gB : g.natAbs ∣ B.natAbs := by rw [hg]; exact Nat.gcd_dvd_right _ _
    have gA : g.natAbs ∣ A.natAbs := by rw [hg]; exact Nat.gcd_dvd_left _ _
    have g0 : 0 < g := by
      have : 0 < Int.gcd A B := Int.gcd_pos_of_ne_zero_right A hB
      omega
    have x1 : x.natAbs ≤ B.natAbs := by
      have : x * 1 ≤ x * g := Int.mul_le_mul_of_nonneg_left (by omega) x0
      omega
    refine ⟨by omega, ?_⟩
    obtain ⟨u, hu⟩ := gA
    obtain ⟨v, hv⟩ := gB
    have hv0 : 0 < v := Nat.pos_of_ne_zero (fun e => by rw [e] at hv; simp at hv; omega)
    have gn : 0 < g.natAbs := by omega
    have xv : x.natAbs + 1 ≤ v := by
      have h1 : x.natAbs * g.natAbs < g.natAbs * v := by
        rw [← hv, ← Int.natAbs_mul]
        have := Int.mul_nonneg x0 (Int.le_of_lt g0)
        omega
      rw [Nat.mul_comm g.natAbs v] at h1
      exact Nat.lt_of_mul_lt_mul_right h1
    have e : B.natAbs * y.natAbs ≤ g.natAbs + A.natAbs * x.natAbs := by
      have : B * y = g - A * x := by omega
      rw [← Int.natAbs_mul, this, ← Int.natAbs_mul]
      exact Int.natAbs_sub_le _ _
    -- v |y| <= 1 + u |x| <= 1 + u (v - 1)
    have e2 : v * y.natAbs ≤ 1 + u * x.natAbs := by
      rw [hv, hu, Nat.mul_assoc, Nat.mul_assoc] at e
      have e3 : g.natAbs * (v * y.natAbs) ≤ g.natAbs * (1 + u * x.natAbs) := by rw [Nat.mul_add, Nat.mul_one]; exact e
      exact Nat.le_of_mul_le_mul_left e3 gn
    have e4 : u * x.natAbs + u ≤ u * v := by
      have := Nat.mul_le_mul_left u xv
      rw [Nat.mul_add, Nat.mul_one] at this
      exact this
    by_cases hA : A = 0
    · have u0 : u = 0 := by
        rcases Nat.mul_eq_zero.1 (show g.natAbs * u = 0 by rw [← hu, hA]; rfl) with q | q <;> omega
      subst u0
      refine ⟨?_, fun q => absurd hA q⟩
      have : 1 * y.natAbs ≤ v * y.natAbs := Nat.mul_le_mul_right _ hv0
      omega
    · have u1 : 1 ≤ u := Nat.pos_of_ne_zero (fun q => by rw [q] at hu; simp at hu; omega)
      have yu : y.natAbs ≤ u := by
        have : v * y.natAbs ≤ v * u := by rw [Nat.mul_comm v u]; omega
        exact Nat.le_of_mul_le_mul_left this hv0
      have uA : u ≤ A.natAbs := by
        rw [hu]
        have := Nat.mul_le_mul_right u (show 1 ≤ g.natAbs by omega)
        omega
      refine ⟨by omega, fun _ _ => ?_⟩
      rw [hu, Nat.mul_comm]
      exact Nat.mul_le_mul_left _ yu
end Go.Proofs.Ytakkmpkkoecnhaa
