/-
  QGcdAllToCrtPure: GcdAll, ExtPure, Gcd6, Ext6, Lm6, CrtPure, joined.
-/
import Derived.Test.YtlhbcdapinacgaaGreatQDivMod
import Derived.Test.YtlhbcdapinacgaaGreatQLaw9ToMWord
import Derived.Test.YtlhbcdapinacgaaGreatQMadeToByWord
import Derived.Deep.RegionHeld3
import Derived.Deep.LoopGhost

/- GcdAll -/
namespace Go.Proofs.YtlhbcdapinacgaaGreat
open Go.RowKit
set_option linter.unusedVariables false

/- Lehmer -/

def ig (u v : Int) : Nat := Nat.gcd u.toNat v.toNat
theorem ig_step {u v q r : Int} (hu : 0 ≤ u) (hv : 0 < v) (hr0 : 0 ≤ r) (hr1 : r < v) (h : u - q * v = r) : ig v r = ig u v := by
  obtain ⟨U, rfl⟩ := Int.eq_ofNat_of_zero_le hu
  obtain ⟨V, rfl⟩ := Int.eq_ofNat_of_zero_le (Int.le_of_lt hv)
  obtain ⟨R, rfl⟩ := Int.eq_ofNat_of_zero_le hr0
  have hm : U % V = R := by
    have h1 : ((U % V : Nat) : Int) = (U : Int) % (V : Int) := by simp
    have h2 : (U : Int) % (V : Int) = (R : Int) := by
      have e : (U : Int) = (R : Int) + (V : Int) * q := by rw [Int.mul_comm]; omega
      rw [e, Int.add_mul_emod_self_left, Int.emod_eq_of_lt hr0 hr1]
    omega
  unfold ig
  simp only [Int.toNat_natCast]
  rw [← hm, Nat.gcd_comm U V, Nat.gcd_rec V U, Nat.gcd_comm]

/-- Where the steps by heads stand. -/
def LehAt (xh yh A B C D x y : Int) : Prop :=
  x = A * xh + B * yh ∧ y = C * xh + D * yh ∧ (0 ≤ x + A ∧ x + A ≤ 1152921504606846976) ∧ (0 ≤ x + B ∧ x + B ≤ 1152921504606846976) ∧ (0 ≤ y + C ∧ y + C ≤ 1152921504606846976) ∧ (0 ≤ y + D ∧ y + D ≤ 1152921504606846976) ∧
    ((0 ≤ A ∧ B ≤ 0 ∧ C ≤ 0 ∧ 0 ≤ D) ∨ (A ≤ 0 ∧ 0 ≤ B ∧ 0 ≤ C ∧ D ≤ 0))
theorem LehAt.start {xh yh : Int} (h0 : 0 ≤ xh) (h1 : xh < 1152921504606846976) (k0 : 0 ≤ yh) (k1 : yh < 1152921504606846976) : LehAt xh yh 1 0 0 1 xh yh :=
  ⟨by omega, by omega, by omega, by omega, by omega, by omega, .inl (by omega)⟩
theorem LehAt.bounds {xh yh A B C D x y : Int} (h : LehAt xh yh A B C D x y) : (-1152921504606846976 ≤ A ∧ A ≤ 1152921504606846976) ∧ (-1152921504606846976 ≤ B ∧ B ≤ 1152921504606846976) ∧ (-1152921504606846976 ≤ C ∧ C ≤ 1152921504606846976) ∧ (-1152921504606846976 ≤ D ∧ D ≤ 1152921504606846976) ∧ (0 ≤ x ∧ x ≤ 1152921504606846976) ∧ (0 ≤ y ∧ y ≤ 1152921504606846976) := by
  obtain ⟨_, _, h1, h2, h3, h4, h5⟩ := h
  rcases h5 with h5 | h5 <;> exact ⟨by omega, by omega, by omega, by omega, by omega, by omega⟩
theorem LehAt.step {xh yh A B C D x y q : Int} (h : LehAt xh yh A B C D x y) (hc : 0 < y + C) (hd : 0 < y + D) (h1 : (x + A) / (y + C) = q) (h2 : (x + B) / (y + D) = q) :
    LehAt xh yh C D (A - q * C) (B - q * D) y (x - q * y) ∧ 0 ≤ q ∧ (x - q * y) + (A - q * C) < y + C ∧ (x - q * y) + (B - q * D) < y + D := by
  obtain ⟨e1, e2, a1, a2, a3, a4, a5⟩ := h
  have q0 : 0 ≤ q := by rw [← h1]; exact Int.ediv_nonneg a1.1 (by omega)
  have m1 := Int.mul_ediv_add_emod (x + A) (y + C)
  have m2 := Int.mul_ediv_add_emod (x + B) (y + D)
  have n1 := Int.emod_nonneg (x + A) (show y + C ≠ 0 by omega)
  have n2 := Int.emod_lt_of_pos (x + A) hc
  have n3 := Int.emod_nonneg (x + B) (show y + D ≠ 0 by omega)
  have n4 := Int.emod_lt_of_pos (x + B) hd
  rw [h1, Int.add_mul] at m1
  rw [h2, Int.add_mul] at m2
  rw [Int.mul_comm q C, Int.mul_comm q D, Int.mul_comm q y]
  have c1 : 0 ≤ q * (-C) ∨ 0 ≤ q * C := by
    rcases a5 with a5 | a5
    · exact .inl (Int.mul_nonneg q0 (by omega))
    · exact .inr (Int.mul_nonneg q0 (by omega))
  refine ⟨⟨e2, ?_, by omega, by omega, by omega, by omega, ?_⟩, q0, by omega, by omega⟩
  · rw [e1, e2]
    grind
  · rcases a5 with a5 | a5
    · right
      have k1 := Int.mul_nonneg q0 (show 0 ≤ -C by omega)
      have k2 := Int.mul_nonneg q0 a5.2.2.2
      rw [Int.mul_neg, Int.mul_comm] at k1
      rw [Int.mul_comm] at k2
      omega
    · left
      have k1 := Int.mul_nonneg q0 (show 0 ≤ -D by omega)
      have k2 := Int.mul_nonneg q0 a5.2.2.1
      rw [Int.mul_neg, Int.mul_comm] at k1
      rw [Int.mul_comm] at k2
      omega

/-- A number by its head, between its ends. -/
theorem leh_ends {P al be S T X : Int} (hP : 0 < P) (a0 : 0 ≤ al) (a1 : al < P) (b0 : 0 ≤ be) (b1 : be < P) (hS : 0 ≤ S) (hT : T ≤ 0) : P * (X + T) ≤ P * X + (S * al + T * be) ∧ P * X + (S * al + T * be) ≤ P * (X + S) := by
  have k1 := Int.mul_nonneg hS a0
  have k2 := Int.mul_le_mul_of_nonneg_left (Int.le_of_lt a1) hS
  have k3 := Int.mul_nonneg (show 0 ≤ -T by omega) b0
  have k4 := Int.mul_le_mul_of_nonneg_left (Int.le_of_lt b1) (show 0 ≤ -T by omega)
  rw [Int.neg_mul] at k3 k4
  rw [Int.neg_mul] at k4
  rw [Int.mul_add, Int.mul_add, Int.mul_comm P T, Int.mul_comm P S]
  omega
def EucAt (xh yh A B C D : Int) : Prop := ∀ P al be : Int, 0 < P → 0 ≤ al → al < P → 0 ≤ be → be < P →
  0 ≤ A * (xh * P + al) + B * (yh * P + be) ∧ 0 ≤ C * (xh * P + al) + D * (yh * P + be) ∧ ig (A * (xh * P + al) + B * (yh * P + be)) (C * (xh * P + al) + D * (yh * P + be)) = ig (xh * P + al) (yh * P + be) ∧
    ((A = 1 ∧ B = 0 ∧ C = 0 ∧ D = 1) ∨ (C ≠ 0 ∧ C * (xh * P + al) + D * (yh * P + be) < A * (xh * P + al) + B * (yh * P + be) ∧ C * (xh * P + al) + D * (yh * P + be) < yh * P + be ∧ A * (xh * P + al) + B * (yh * P + be) ≤ yh * P + be))
theorem EucAt.start {xh yh : Int} (h0 : 0 ≤ xh) (k0 : 0 ≤ yh) : EucAt xh yh 1 0 0 1 := fun P al be hP a0 a1 b0 b1 => by
  have m1 := Int.mul_nonneg h0 (Int.le_of_lt hP)
  have m2 := Int.mul_nonneg k0 (Int.le_of_lt hP)
  have e1 : 1 * (xh * P + al) + 0 * (yh * P + be) = xh * P + al := by omega
  have e2 : 0 * (xh * P + al) + 1 * (yh * P + be) = yh * P + be := by omega
  rw [e1, e2]
  exact ⟨by omega, by omega, rfl, .inl ⟨rfl, rfl, rfl, rfl⟩⟩
theorem leh_form (A B xh yh P al be x : Int) (h : x = A * xh + B * yh) : A * (xh * P + al) + B * (yh * P + be) = P * x + (A * al + B * be) := by
  subst h
  grind
theorem leh_form' (A B xh yh P al be x : Int) (h : x = A * xh + B * yh) : A * (xh * P + al) + B * (yh * P + be) = P * x + (B * be + A * al) := by
  subst h
  grind
theorem leh_rest {xh yh A B C D x y q P al be : Int} (h : LehAt xh yh A B C D x y) (hc : 0 < y + C) (hd : 0 < y + D) (h1 : (x + A) / (y + C) = q) (h2 : (x + B) / (y + D) = q) (hP : 0 < P) (a0 : 0 ≤ al) (a1 : al < P) (b0 : 0 ≤ be) (b1 : be < P) :
    0 < C * (xh * P + al) + D * (yh * P + be) ∧ 0 ≤ (A - q * C) * (xh * P + al) + (B - q * D) * (yh * P + be) ∧ (A - q * C) * (xh * P + al) + (B - q * D) * (yh * P + be) < C * (xh * P + al) + D * (yh * P + be) := by
  obtain ⟨hn, q0, l1, l2⟩ := h.step hc hd h1 h2
  obtain ⟨_, f2, _, _, n3, n4, n5⟩ := hn
  obtain ⟨_, e2, _, _, _, _, a5⟩ := h
  rcases a5 with a5 | a5
  · -- C ≤ 0 ≤ D
    have v := leh_ends (X := y) hP b0 b1 a0 a1 a5.2.2.2 a5.2.2.1
    rw [leh_form' C D xh yh P al be y e2]
    have hs : 0 ≤ A - q * C ∧ B - q * D ≤ 0 := by
      have k1 := Int.mul_nonneg q0 (show 0 ≤ -C by omega)
      have k2 := Int.mul_nonneg q0 a5.2.2.2
      rw [Int.mul_neg] at k1
      omega
    have r := leh_ends (X := x - q * y) hP a0 a1 b0 b1 hs.1 hs.2
    rw [leh_form (A - q * C) (B - q * D) xh yh P al be (x - q * y) f2]
    have z0 := Int.mul_nonneg (Int.le_of_lt hP) n4.1
    have z1 := Int.mul_le_mul_of_nonneg_left (show (x - q * y) + (A - q * C) ≤ y + C - 1 by omega) (Int.le_of_lt hP)
    have z2 := Int.mul_pos hP hc
    rw [Int.mul_sub, Int.mul_one] at z1
    omega
  · have v := leh_ends (X := y) hP a0 a1 b0 b1 a5.2.2.1 a5.2.2.2
    rw [leh_form C D xh yh P al be y e2]
    have hs : A - q * C ≤ 0 ∧ 0 ≤ B - q * D := by
      have k1 := Int.mul_nonneg q0 (show 0 ≤ -D by omega)
      have k2 := Int.mul_nonneg q0 a5.2.2.1
      rw [Int.mul_neg] at k1
      omega
    have r := leh_ends (X := x - q * y) hP b0 b1 a0 a1 hs.2 hs.1
    rw [leh_form' (A - q * C) (B - q * D) xh yh P al be (x - q * y) f2]
    have z0 := Int.mul_nonneg (Int.le_of_lt hP) n3.1
    have z1 := Int.mul_le_mul_of_nonneg_left (show (x - q * y) + (B - q * D) ≤ y + D - 1 by omega) (Int.le_of_lt hP)
    have z2 := Int.mul_pos hP hd
    rw [Int.mul_sub, Int.mul_one] at z1
    omega
theorem leh_sub (A B C D q a b : Int) : (A - q * C) * a + (B - q * D) * b = (A * a + B * b) - q * (C * a + D * b) := by grind
theorem EucAt.step {xh yh A B C D x y q : Int} (h : LehAt xh yh A B C D x y) (he : EucAt xh yh A B C D) (hc : 0 < y + C) (hd : 0 < y + D) (h1 : (x + A) / (y + C) = q) (h2 : (x + B) / (y + D) = q) : EucAt xh yh C D (A - q * C) (B - q * D) := fun P al be hP a0 a1 b0 b1 => by
  obtain ⟨v0, r0, r1⟩ := leh_rest h hc hd h1 h2 hP a0 a1 b0 b1
  obtain ⟨u0, _, g, alt⟩ := he P al be hP a0 a1 b0 b1
  have hst := ig_step (q := q) u0 v0 r0 r1 (leh_sub A B C D q _ _).symm
  refine ⟨Int.le_of_lt v0, r0, hst.trans g, .inr ?_⟩
  have hC : A - q * C ≠ 0 := by
    rcases alt with ⟨rfl, rfl, rfl, rfl⟩ | ⟨hCn, _, _, _⟩
    · omega
    · obtain ⟨w0, s0, s1⟩ := leh_rest h hc hd h1 h2 (P := 1) (al := 0) (be := 0) (by omega) (by omega) (by omega) (by omega) (by omega)
      obtain ⟨_, _, _, alt1⟩ := he 1 0 0 (by omega) (by omega) (by omega) (by omega) (by omega)
      rw [leh_sub] at s1
      rcases alt1 with ⟨_, _, hc0, _⟩ | ⟨_, hlt, _, _⟩
      · exact absurd hc0 hCn
      · obtain ⟨_, q0, _, _⟩ := h.step hc hd h1 h2
        have hq1 : 1 ≤ q := by
          rcases Int.lt_or_eq_of_le q0 with t | t
          · omega
          · rw [← t, Int.zero_mul] at s1; omega
        obtain ⟨_, _, _, _, _, _, a5⟩ := h
        rcases a5 with a5 | a5
        · have := Int.mul_le_mul_of_nonneg_right hq1 (show 0 ≤ -C by omega)
          rw [Int.one_mul, Int.mul_neg] at this
          omega
        · have := Int.mul_le_mul_of_nonneg_right hq1 (show 0 ≤ C by omega)
          rw [Int.one_mul] at this
          omega
  refine ⟨hC, r1, ?_, ?_⟩
  · rcases alt with ⟨rfl, rfl, rfl, rfl⟩ | ⟨_, _, hb, _⟩
    · omega
    · omega
  · rcases alt with ⟨rfl, rfl, rfl, rfl⟩ | ⟨_, _, hb, _⟩
    · omega
    · omega

/- Shares -/

/-- What shares answers. -/
def Shared (xh yh : Int) (w : World) (e : Ending) (w' : World) : Prop :=
  ∃ A B C D : Int, e = .returned (.tuple #[.agg #[.int .i64 A, .int .i64 B], .agg #[.int .i64 C, .int .i64 D]]) ∧ (∃ x y, LehAt xh yh A B C D x y) ∧ EucAt xh yh A B C D ∧ Below w.heap.size w w'

theorem sub_own {w : World} {v u : Value} {xs ys : List Int} (h : Sl w.heap.size w v xs) (h' : Sl w.heap.size w u ys) (hge : val ys ≤ val xs) :
    Calls Tryz.prog 71 #[v, u] w fun e w' => ∃ zs a cap, e = .returned (.tuple #[.slice a zs.length cap, .int .i64 0]) ∧ Own w.heap.size w' (.slice a zs.length cap) zs ∧ Canon zs ∧ val zs = val xs - val ys ∧ Below w.heap.size w w' :=
  (sub_yes h h' hge).mono fun e w' ht => by
    obtain ⟨zs, cap, r, h1, h2, h3, h4, h5, h6, h7, h8, h9⟩ := ht
    subst h5
    exact ⟨zs, _, _, h1, ⟨h2.1, .inr ⟨w.heap.size, r, Nat.le_refl _, h6, rfl, h7⟩⟩, h2, h3, h8⟩
/-- A call that makes one number. -/
def MadeOf (w : World) (u : Int) (e : Ending) (w' : World) : Prop := ∃ zs r, e = .returned r ∧ Own w.heap.size w' r zs ∧ Canon zs ∧ val zs = u ∧ Below w.heap.size w w'

/-- Two lesser numbers with the same common divisors. -/
def Neared (B0 : Nat) (w : World) (X Y : Int) (e : Ending) (w' : World) : Prop :=
  ∃ us vs ru rv, e = .returned (.tuple #[ru, rv]) ∧ Own B0 w' ru us ∧ Own B0 w' rv vs ∧ Canon us ∧ Canon vs ∧ ig (val us) (val vs) = ig X Y ∧ val vs ≤ val us ∧ val vs < Y ∧ val us ≤ Y ∧ Below w.heap.size w w'

theorem bitLen_bounds {v : Nat} (h : v ≠ 0) : v < 2 ^ bitLen v ∧ 2 ^ (bitLen v - 1) ≤ v := by
  have e : bitLen v = Nat.log2 v + 1 := by unfold bitLen; rw [if_neg h]
  rw [e]
  exact ⟨Nat.lt_log2_self, by rw [Nat.add_sub_cancel]; exact Nat.log2_self_le h⟩

/-- What Gcd answers. -/
def Gcded (w : World) (X Y : Int) (e : Ending) (w' : World) : Prop :=
  ∃ zs r, e = .returned r ∧ Own w.heap.size w' r zs ∧ Canon zs ∧ val zs = (ig X Y : Int) ∧ Below w.heap.size w w'
theorem ig_comm (u v : Int) : ig u v = ig v u := by unfold ig; exact Nat.gcd_comm _ _
theorem ig_zero {u : Int} (h : 0 ≤ u) : (ig u 0 : Int) = u := by unfold ig; simp; omega

end Go.Proofs.YtlhbcdapinacgaaGreat

/- ExtPure -/
namespace Go.Proofs.YtlhbcdapinacgaaGreat
open Go.RowKit
set_option linter.unusedVariables false

/-- What Ext answers. -/
structure ExtV (A B g x y : Int) : Prop where
  gcd : g = (Int.gcd A B : Int)
  lin : A * x + B * y = g
  rng : B ≠ 0 → 0 ≤ x ∧ x * g < (B.natAbs : Int)
  zero : B = 0 → x = cmpI A 0 ∧ y = 0

/-- What stands at the head of Ext's loop. -/
structure ExtI (A B a b x0 y0 x1 y1 : Int) : Prop where
  ea : a = A * x0 + B * y0
  eb : b = A * x1 + B * y1
  det : x0 * y1 - x1 * y0 = 1 ∨ x0 * y1 - x1 * y0 = -1
  g : Int.gcd a b = Int.gcd A B
  bx : x1.natAbs * a.natAbs + x0.natAbs * b.natAbs ≤ B.natAbs
  by' : y1.natAbs * a.natAbs + y0.natAbs * b.natAbs ≤ A.natAbs
  cx0 : x0.natAbs ≤ max 1 B.natAbs
  cx1 : x1.natAbs ≤ max 1 B.natAbs
  cy0 : y0.natAbs ≤ max 1 A.natAbs
  cy1 : y1.natAbs ≤ max 1 A.natAbs
  zz : B = 0 → x0 = 1 ∧ y0 = 0 ∧ x1 = 0
theorem extI_start (A B : Int) : ExtI A B A B 1 0 0 1 := by
  refine ⟨by omega, by omega, .inl (by omega), rfl, by simp, by simp, ?_, ?_, ?_, ?_, fun _ => ⟨rfl, rfl, rfl⟩⟩ <;> simp <;> omega
theorem gcd_tmod (a b : Int) : Int.gcd b (a.tmod b) = Int.gcd a b := by
  unfold Int.gcd
  rw [Int.natAbs_tmod, Nat.gcd_comm a.natAbs b.natAbs]
  exact (Nat.gcd_rec b.natAbs a.natAbs ▸ Nat.gcd_comm _ _)
theorem natAbs_split (a b : Int) : a.natAbs = (a.tdiv b).natAbs * b.natAbs + (a.tmod b).natAbs := by
  rw [Int.natAbs_tmod, Int.natAbs_tdiv]
  exact (Nat.div_add_mod' a.natAbs b.natAbs).symm
theorem mul_natAbs_le {x q y : Int} : (x - q * y).natAbs ≤ x.natAbs + q.natAbs * y.natAbs := by
  have := Int.natAbs_sub_le x (q * y)
  rwa [Int.natAbs_mul] at this
theorem step_bound {x0 x1 q a b r B : Nat} {n : Nat} (hn : n ≤ x0 + q * x1) (ha : a = q * b + r) (h : x1 * a + x0 * b ≤ B) : n * b + x1 * r ≤ B := by
  have h1 : n * b ≤ (x0 + q * x1) * b := Nat.mul_le_mul_right b hn
  have h2 : (x0 + q * x1) * b + x1 * r = x1 * a + x0 * b := by
    subst ha
    simp only [Nat.add_mul, Nat.mul_add]
    have : q * x1 * b = x1 * (q * b) := by rw [Nat.mul_comm q x1, Nat.mul_assoc]
    omega
  omega
theorem le_of_mul_add {n b m B : Nat} (hb : b ≠ 0) (h : n * b + m ≤ B) : n ≤ B := by
  have : n * 1 ≤ n * b := Nat.mul_le_mul_left n (by omega)
  omega
theorem ExtI.step {A B a b x0 y0 x1 y1 : Int} (h : ExtI A B a b x0 y0 x1 y1) (hb : b ≠ 0) :
    ExtI A B b (a.tmod b) x1 y1 (x0 - a.tdiv b * x1) (y0 - a.tdiv b * y1) ∧ (a.tmod b).natAbs < b.natAbs := by
  obtain ⟨ea, eb, det, g, bx, by', cx0, cx1, cy0, cy1, zz⟩ := h
  have hd := (tmod_small (z := a) hb).2.2.2
  have hs := natAbs_split a b
  have hbn : b.natAbs ≠ 0 := by omega
  have nx := step_bound (mul_natAbs_le (x := x0) (q := a.tdiv b) (y := x1)) hs bx
  have ny := step_bound (mul_natAbs_le (x := y0) (q := a.tdiv b) (y := y1)) hs by'
  refine ⟨⟨eb, ?_, ?_, (gcd_tmod a b).trans g, nx, ny, cx1, ?_, cy1, ?_, ?_⟩, ?_⟩
  · generalize a.tdiv b = q at *
    generalize a.tmod b = r at *
    have : r = a - q * b := by omega
    rw [this, ea, eb]
    grind
  · generalize a.tdiv b = q at *
    rcases det with d | d
    · exact .inr (by grind)
    · exact .inl (by grind)
  · exact Nat.le_trans (le_of_mul_add hbn nx) (Nat.le_max_right _ _)
  · exact Nat.le_trans (le_of_mul_add hbn ny) (Nat.le_max_right _ _)
  · intro e
    obtain ⟨q1, q2, _⟩ := zz e
    subst e
    rw [q1] at bx
    simp at bx
    omega
  · rw [Int.natAbs_tmod]
    exact Nat.mod_lt _ (by omega)
/-- Where the loop ends. -/
theorem ExtI.last {A B a x0 y0 x1 y1 : Int} (h : ExtI A B a 0 x0 y0 x1 y1) :
    (a.natAbs : Int) = (Int.gcd A B : Int) ∧ a.natAbs * x1.natAbs = B.natAbs ∧ A * x1 + B * y1 = 0 ∧ A * (x0 * cmpI a 0) + B * (y0 * cmpI a 0) = (a.natAbs : Int) := by
  obtain ⟨ea, eb, det, g, bx, by', cx0, cx1, cy0, cy1, zz⟩ := h
  refine ⟨?_, ?_, by omega, ?_⟩
  · rw [← g]; simp
  · have e : a * x1 = -(B * (x0 * y1 - x1 * y0)) := by rw [ea]; grind
    rw [← Int.natAbs_mul, e]
    rcases det with d | d <;> rw [d] <;> simp
  · rw [show A * (x0 * cmpI a 0) + B * (y0 * cmpI a 0) = (A * x0 + B * y0) * cmpI a 0 by grind, ← ea, Int.mul_comm]
    exact sgn_abs a
/-- The divisor 0 of the last step: the number itself. -/
theorem ExtI.none {A a x0 y0 x1 y1 : Int} (h : ExtI A 0 a 0 x0 y0 x1 y1) : ExtV A 0 (a.natAbs : Int) (x0 * cmpI a 0) (y0 * cmpI a 0) := by
  obtain ⟨l1, l2, l3, l4⟩ := h.last
  obtain ⟨q1, q2, _⟩ := h.zz rfl
  have ea := h.ea
  refine ⟨l1, l4, fun e => absurd rfl e, fun _ => ?_⟩
  subst q1 q2
  have : a = A := by omega
  subst this
  simp
theorem ExtI.some {A B a x0 y0 x1 y1 : Int} (h : ExtI A B a 0 x0 y0 x1 y1) (hB : B ≠ 0) : x1 ≠ 0 ∧ ∀ t l : Int, t * x1 + l = x0 * cmpI a 0 → 0 ≤ l → l < (x1.natAbs : Int) → ExtV A B (a.natAbs : Int) l (y0 * cmpI a 0 - t * y1) := by
  obtain ⟨l1, l2, l3, l4⟩ := h.last
  have hx : x1 ≠ 0 := fun e => by subst e; simp at l2; omega
  refine ⟨hx, fun t l ht h0 hl => ⟨l1, ?_, fun _ => ⟨h0, ?_⟩, fun e => absurd e hB⟩⟩
  · rw [← l4, ← ht]
    have e : A * l + B * (y0 * cmpI a 0 - t * y1) = A * (t * x1 + l) + B * (y0 * cmpI a 0) - t * (A * x1 + B * y1) := by grind
    rw [e, l3]
    omega
  · have ha : 0 < a.natAbs := Nat.pos_of_ne_zero (fun e => by rw [e] at l2; simp at l2; omega)
    have e : (B.natAbs : Int) = (x1.natAbs : Int) * (a.natAbs : Int) := by rw [← l2]; push_cast; exact Int.mul_comm _ _
    rw [e]
    exact Int.mul_lt_mul_of_pos_right hl (by omega)
/-- The second multiplier is small, too. -/
theorem ExtV.small {A B g x y : Int} (h : ExtV A B g x y) : x.natAbs ≤ max 1 B.natAbs ∧ y.natAbs ≤ max 1 A.natAbs ∧ (A ≠ 0 → B ≠ 0 → y.natAbs * g.natAbs ≤ A.natAbs) := by
  obtain ⟨hg, hl, hr, hz⟩ := h
  have bc := cmpI_bound A 0
  by_cases hB : B = 0
  · obtain ⟨q1, q2⟩ := hz hB
    subst q1 q2
    exact ⟨by omega, by simp, fun _ e => absurd hB e⟩
  · obtain ⟨x0, xg⟩ := hr hB
    have gB : g.natAbs ∣ B.natAbs := by rw [hg]; exact Nat.gcd_dvd_right _ _
    have gA : g.natAbs ∣ A.natAbs := by rw [hg]; exact Nat.gcd_dvd_left _ _
    have g0 : 0 < g := by
      have : 0 < Int.gcd A B := Int.gcd_pos_of_ne_zero_right A hB
      omega
    have x1 : x.natAbs ≤ B.natAbs := by
      have : x * 1 ≤ x * g := Int.mul_le_mul_of_nonneg_left (by omega) x0
      omega
    refine ⟨by omega, ?_⟩
    obtain ⟨u, hu⟩ := gA
    obtain ⟨v, hv⟩ := gB
    have hv0 : 0 < v := Nat.pos_of_ne_zero (fun e => by rw [e] at hv; simp at hv; omega)
    have gn : 0 < g.natAbs := by omega
    have xv : x.natAbs + 1 ≤ v := by
      have h1 : x.natAbs * g.natAbs < g.natAbs * v := by
        rw [← hv, ← Int.natAbs_mul]
        have := Int.mul_nonneg x0 (Int.le_of_lt g0)
        omega
      rw [Nat.mul_comm g.natAbs v] at h1
      exact Nat.lt_of_mul_lt_mul_right h1
    have e : B.natAbs * y.natAbs ≤ g.natAbs + A.natAbs * x.natAbs := by
      have : B * y = g - A * x := by omega
      rw [← Int.natAbs_mul, this, ← Int.natAbs_mul]
      exact Int.natAbs_sub_le _ _
    -- v |y| <= 1 + u |x| <= 1 + u (v - 1)
    have e2 : v * y.natAbs ≤ 1 + u * x.natAbs := by
      rw [hv, hu, Nat.mul_assoc, Nat.mul_assoc] at e
      have e3 : g.natAbs * (v * y.natAbs) ≤ g.natAbs * (1 + u * x.natAbs) := by rw [Nat.mul_add, Nat.mul_one]; exact e
      exact Nat.le_of_mul_le_mul_left e3 gn
    have e4 : u * x.natAbs + u ≤ u * v := by
      have := Nat.mul_le_mul_left u xv
      rw [Nat.mul_add, Nat.mul_one] at this
      exact this
    by_cases hA : A = 0
    · have u0 : u = 0 := by
        rcases Nat.mul_eq_zero.1 (show g.natAbs * u = 0 by rw [← hu, hA]; rfl) with q | q <;> omega
      subst u0
      refine ⟨?_, fun q => absurd hA q⟩
      have : 1 * y.natAbs ≤ v * y.natAbs := Nat.mul_le_mul_right _ hv0
      omega
    · have u1 : 1 ≤ u := Nat.pos_of_ne_zero (fun q => by rw [q] at hu; simp at hu; omega)
      have yu : y.natAbs ≤ u := by
        have : v * y.natAbs ≤ v * u := by rw [Nat.mul_comm v u]; omega
        exact Nat.le_of_mul_le_mul_left this hv0
      have uA : u ≤ A.natAbs := by
        rw [hu]
        have := Nat.mul_le_mul_right u (show 1 ≤ g.natAbs by omega)
        omega
      refine ⟨by omega, fun _ _ => ?_⟩
      rw [hu, Nat.mul_comm]
      exact Nat.mul_le_mul_left _ yu
end Go.Proofs.YtlhbcdapinacgaaGreat

/- Gcd6 -/
namespace Go.Proofs.YtlhbcdapinacgaaGreat
open Go.RowKit
set_option linter.unusedVariables false

theorem ig_vals {n m : Bool} {xs ys : List Int} {A B : Int} (hx : WF xs) (hy : WF ys) (ha : iv n xs = A) (hb : iv m ys = B) : (ig (val xs) (val ys) : Int) = (Int.gcd A B : Int) := by
  rw [iv_abs hx ha, iv_abs hy hb]
  rfl
theorem gcd_lt {A B : Int} {k : Nat} (hA : (A.natAbs : Int) < pw k) (hB : (B.natAbs : Int) < pw k) : ((Int.gcd A B : Int).natAbs : Int) < pw k := by
  have h := pw_pos k
  by_cases e : A = 0
  · subst e
    simp only [Int.gcd, Int.natAbs_zero, Nat.gcd_zero_left]
    omega
  · have := Nat.le_of_dvd (show 0 < A.natAbs by omega) (Nat.gcd_dvd_left A.natAbs B.natAbs)
    simp only [Int.gcd]
    omega
/-- The least common multiple. -/
def lcmv (A B : Int) : Int := ((A.tdiv (Int.gcd A B : Int) * B).natAbs : Int)
theorem gcd_div (A B : Int) : (Int.gcd A B : Int) ≠ 0 → A.tmod (Int.gcd A B : Int) = 0 := fun _ => Int.tmod_eq_zero_of_dvd (Int.gcd_dvd_left ..)
theorem tdiv_natAbs_le (A g : Int) : (A.tdiv g).natAbs ≤ A.natAbs := by
  rw [Int.natAbs_tdiv]
  exact Nat.div_le_self _ _

end Go.Proofs.YtlhbcdapinacgaaGreat

/- Ext6 -/
namespace Go.Proofs.YtlhbcdapinacgaaGreat
open Go.RowKit
set_option linter.unusedVariables false

theorem alloc5 (w : World) (o1 o2 o3 o4 o5 : Obj) : Below w.heap.size w (((((w.alloc o1).alloc o2).alloc o3).alloc o4).alloc o5) ∧ (((((w.alloc o1).alloc o2).alloc o3).alloc o4).alloc o5).heap.size = w.heap.size + 1 + 1 + 1 + 1 + 1 := ⟨(((((Below.refl _ _).alloc (Nat.le_refl _) _).alloc (by simp) _).alloc (by simp; omega) _).alloc (by simp; omega) _).alloc (by simp; omega) _, by simp⟩
theorem fits {z : Int} {k : Nat} {B : Int} (h : z.natAbs ≤ max 1 B.natAbs) (hB : (B.natAbs : Int) < pw k) (h1 : 1 < pw k) : (z.natAbs : Int) < pw k := by omega
theorem pw_one {k : Nat} (h : 1 ≤ k) : 1 < pw k := by
  have := pw_up h
  have e : pw 1 = 18446744073709551616 := rfl
  omega
/-- The results that lie in three boxes. -/
theorem zback3 {f : Func} {s1 s2 s3 : Nat} (hr : f.results = #[ResultVar.cell s1 30, ResultVar.cell s2 30, ResultVar.cell s3 30]) {W : World} {b b' b'' : Nat} {x y x' y' x'' y'' : Value} (h : Duo W b x y) (h' : Duo W b' x' y') (h'' : Duo W b'' x'' y'') (tmps : Array Value) (ht : tmps[s1]? = some (.pointer (some ⟨b, 0, none⟩))) (ht' : tmps[s2]? = some (.pointer (some ⟨b', 0, none⟩))) (ht'' : tmps[s3]? = some (.pointer (some ⟨b'', 0, none⟩))) :
    (results f tmps).run Tryz.prog W = .ok (.tuple #[.agg #[x, y], .agg #[x', y'], .agg #[x'', y'']]) W := by
  simp [results, hr, go_sem, ht, ht', ht'', h.c0, h.c1, h'.c0, h'.c1, h''.c0, h''.c1]
/-- What Ext answers. -/
def Exted (w : World) (A B : Int) (k : Nat) (e : Ending) (w' : World) : Prop :=
  ∃ g x y rg rx ry, ExtV A B g x y ∧ e = .returned (.tuple #[rg, rx, ry]) ∧ Zm w.heap.size w' rg g k ∧ Zm w.heap.size w' rx x k ∧ Zm w.heap.size w' ry y k ∧ Below w.heap.size w w'
theorem edv_mod {z y : Int} (hy : y ≠ 0) : edv z y * y + z % y = z ∧ 0 ≤ z % y ∧ z % y < (y.natAbs : Int) := by
  have h := tmod_small (z := z) hy
  refine ⟨?_, Int.emod_nonneg z hy, Int.emod_lt z hy⟩
  unfold edv
  by_cases hs : z.tmod y < 0
  · rw [if_pos (cmpI_neg hs), ← (euclid_bits hy).1 hs, ← sgn_abs y]
    have := h.2.2.2
    rw [Int.sub_mul]
    omega
  · rw [if_neg (cmpI_nonneg (a := z.tmod y) (b := 0) (by omega)), ← (euclid_bits hy).2 hs]
    exact h.2.2.2

end Go.Proofs.YtlhbcdapinacgaaGreat

/- Lm6 -/
namespace Go.Proofs.YtlhbcdapinacgaaGreat
open Go.RowKit
set_option linter.unusedVariables false

/-- The results that lie in two boxes. -/
theorem zbackp {f : Func} {s1 s2 : Nat} (hr : f.results = #[ResultVar.cell s1 30, ResultVar.cell s2 30]) {W : World} {b b' : Nat} {x y x' y' : Value} (h : Duo W b x y) (h' : Duo W b' x' y') (tmps : Array Value) (ht : tmps[s1]? = some (.pointer (some ⟨b, 0, none⟩))) (ht' : tmps[s2]? = some (.pointer (some ⟨b', 0, none⟩))) :
    (results f tmps).run Tryz.prog W = .ok (.tuple #[.agg #[x, y], .agg #[x', y']]) W := by
  simp [results, hr, go_sem, ht, ht', h.c0, h.c1, h'.c0, h'.c1]
/-- What leastMultiple answers. -/
def Lmed (w : World) (A B : Int) (k : Nat) (e : Ending) (w' : World) : Prop :=
  ∃ g x y rg rx, ExtV (A % B) B g x y ∧ e = .returned (.tuple #[rg, rx]) ∧ Zm w.heap.size w' rg g k ∧ Zm w.heap.size w' rx x k ∧ Below w.heap.size w w'
theorem mod_fit {A B : Int} {k : Nat} (hB : B ≠ 0) (h : (B.natAbs : Int) < pw k) : ((A % B).natAbs : Int) < pw k := by
  have h1 := Int.emod_nonneg A hB
  have h2 := Int.emod_lt A hB
  omega
theorem gcd_emod (A B : Int) : Int.gcd (A % B) B = Int.gcd A B := by
  have e : A % B = A - B * (A / B) := by have := Int.mul_ediv_add_emod A B; omega
  rw [e, Int.gcd_comm, Int.gcd_comm A B, show A - B * (A / B) = A + (-(A / B)) * B by grind]
  exact Int.gcd_add_mul_right_right ..
theorem zi_sign_no {w : World} {v : Value} {z : Int} {k : Nat} (h : Zi w v z k) (hz : z = 0) : Calls Tryz.prog 24 #[v] w fun e w' => e = .returned (.int .i64 0) ∧ Below w.heap.size w w' := by
  have q := sign_z h
  rw [hz, cmpI_self] at q
  exact q

end Go.Proofs.YtlhbcdapinacgaaGreat

/- CrtPure -/
namespace Go.Proofs.YtlhbcdapinacgaaGreat
open Go.RowKit
set_option linter.unusedVariables false

/-- What Crt answers. -/
structure CrtV (a b c d r m : Int) : Prop where
  em : m = lcmv b d
  lo : 0 ≤ r
  hi : r < m
  d1 : b ∣ r - a
  d2 : d ∣ r - c
/-- The steps of Crt. -/
structure CrtS (a b c d g x : Int) : Prop where
  g0 : g ≠ 0
  st : (c - a).tmod g = 0
  ro : d.tmod g = 0
  rn : d.tdiv g ≠ 0
  rl : (d.tdiv g).natAbs ≤ d.natAbs
  mn : ((b * d.tdiv g).natAbs : Int) ≠ 0
  v : CrtV a b c d (((((c - a).tdiv g * x) % d.tdiv g) * b + a) % ((b * d.tdiv g).natAbs : Int)) ((b * d.tdiv g).natAbs : Int)
theorem natAbs_dvd_mul {b v : Int} : b ∣ ((b * v).natAbs : Int) := Int.dvd_natAbs.2 ⟨v, rfl⟩
theorem crtS {a b c d g x y : Int} (hb : b ≠ 0) (hd : d ≠ 0) (h : ExtV (b % d) d g x y) (hdv : (Int.gcd b d : Int) ∣ c - a) : CrtS a b c d g x := by
  obtain ⟨h1, h2, -, -⟩ := h
  rw [gcd_emod] at h1
  have gb : g ∣ b := by rw [h1]; exact Int.gcd_dvd_left ..
  have gd : g ∣ d := by rw [h1]; exact Int.gcd_dvd_right ..
  have gc : g ∣ c - a := by rw [h1]; exact hdv
  have g0 : g ≠ 0 := fun e => by subst e; exact hd (Int.zero_dvd.1 gd)
  have hl : lcmv b d = ((b.tdiv g * d).natAbs : Int) := by unfold lcmv; rw [← h1]
  obtain ⟨u, hu⟩ := gb
  obtain ⟨v, hv⟩ := gd
  obtain ⟨t, ht⟩ := gc
  have ev : d.tdiv g = v := by rw [hv, Int.mul_tdiv_cancel_left _ g0]
  have eu : b.tdiv g = u := by rw [hu, Int.mul_tdiv_cancel_left _ g0]
  have et : (c - a).tdiv g = t := by rw [ht, Int.mul_tdiv_cancel_left _ g0]
  have v0 : v ≠ 0 := fun e => by rw [e] at hv; simp at hv; exact hd hv
  have bv : b * v ≠ 0 := Int.mul_ne_zero hb v0
  rw [eu] at hl
  have em : ((b * v).natAbs : Int) = lcmv b d := by rw [hl]; congr 2; rw [hu, hv]; grind
  have mn : ((b * v).natAbs : Int) ≠ 0 := by omega
  refine ⟨g0, Int.tmod_eq_zero_of_dvd ⟨t, ht⟩, Int.tmod_eq_zero_of_dvd ⟨v, hv⟩, by rw [ev]; exact v0, tdiv_natAbs_le _ _, by rw [ev]; exact mn, ?_⟩
  rw [ev, et]
  refine ⟨em, Int.emod_nonneg _ mn, ?_, ?_, ?_⟩
  · have := Int.emod_lt ((t * x % v) * b + a) mn
    omega
  · have e := Int.emod_def ((t * x % v) * b + a) ((b * v).natAbs : Int)
    obtain ⟨q, hq⟩ := natAbs_dvd_mul (b := b) (v := v)
    rw [e]
    refine ⟨t * x % v - q * (((t * x % v) * b + a) / ((b * v).natAbs : Int)), ?_⟩
    generalize (((t * x % v) * b + a) / ((b * v).natAbs : Int)) = Q
    generalize t * x % v = T
    rw [hq]
    grind
  · have e := Int.emod_def ((t * x % v) * b + a) ((b * v).natAbs : Int)
    have e2 := Int.emod_def (t * x) v
    have e3 : b % d = b - d * (b / d) := Int.emod_def b d
    obtain ⟨q, hq⟩ := natAbs_dvd_mul (b := d) (v := u)
    have e4 : ((b * v).natAbs : Int) = ((d * u).natAbs : Int) := by congr 2; rw [hu, hv]; grind
    rw [e, e4, hq]
    generalize (((t * x % v) * b + a) / (d * q)) = Q
    rw [e2]
    generalize t * x / v = Q2
    rw [e3] at h2
    generalize b / d = Q3 at h2
    have hc : c = a + g * t := by omega
    -- (t x - v Q2) b + a - d q Q - c = t (b x - g) - d u Q2 - d q Q
    have h5 : b * x - g = d * (Q3 * x - y) := by grind
    refine ⟨t * (Q3 * x - y) - u * Q2 - q * Q, ?_⟩
    have h6 : v * b = d * u := by rw [hu, hv]; grind
    have h7 : (t * x - v * Q2) * b + a - d * q * Q - c = t * (b * x - g) - Q2 * (v * b) - d * q * Q := by rw [hc]; grind
    rw [h7, h5, h6]
    grind
end Go.Proofs.YtlhbcdapinacgaaGreat
