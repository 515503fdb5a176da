/-
  QZFloorToGcdAll: ZFloor, ZEuclid, ZMod, ZDivs, Less6, ZMet, MWord, GcdAll, joined.
-/
import Derived.Test.YtbalcjjeakdjkaaQDivModToZStore
import Derived.Test.YtbalcjjeakdjkaaQFil9ToTail
import Derived.Test.YtbalcjjeakdjkaaQCells6ToZlaw0
import Derived.Deep.Cut
import Derived.Test.YtbalcjjeakdjkaaQMulAllToOnes
import Derived.Test.YtbalcjjeakdjkaaQLen2ToByWord
import Derived.Deep.RegionHeld3
import Derived.Deep.LoopGhost

/- ZFloor -/
namespace Go.Proofs.Ytbalcjjeakdjkaa
open Go.RowKit
set_option linter.unusedVariables false

theorem Duo.drew {w : World} {b : Nat} {x y : Value} (h : Duo w b x y) : Duo w.drew b x y := h
theorem gz2_drew {E : Int} {w W : World} {q r : Int} {k l : Nat} {e : Ending} (h : GivesZ2 E w q r k l e W) : GivesZ2 E w q r k l e W.drew := by
  obtain ⟨rq, rr, h1, h2, h3, h4⟩ := h
  exact ⟨rq, rr, h1, h2.now (Below.refl _ _).drew, h3.now (Below.refl _ _).drew, h4.drew⟩

end Go.Proofs.Ytbalcjjeakdjkaa

/- ZEuclid -/
namespace Go.Proofs.Ytbalcjjeakdjkaa
open Go.RowKit
set_option linter.unusedVariables false

end Go.Proofs.Ytbalcjjeakdjkaa

/- ZMod -/
namespace Go.Proofs.Ytbalcjjeakdjkaa
open Go.RowKit
set_option linter.unusedVariables false

theorem euclid_bits {z y : Int} (hy : y ≠ 0) : (z.tmod y < 0 → z.tmod y + (y.natAbs : Int) = z % y) ∧ (¬ z.tmod y < 0 → z.tmod y = z % y) := by
  have h1 := Int.tmod_eq_emod (a := z) (b := y)
  have h2 := Int.emod_nonneg z hy
  have h3 : z % y < (y.natAbs : Int) := by
    by_cases h : 0 < y
    · have := Int.emod_lt_of_pos z h
      omega
    · have := Int.emod_lt_of_pos z (b := -y) (by omega)
      rw [Int.emod_neg] at this
      omega
  split at h1 <;> constructor <;> intro h <;> omega
/-- The residue that is nearest to 0. -/
def symv (z y : Int) : Int := if (y.natAbs : Int) < ((z % y + z % y).natAbs : Int) then z % y - (y.natAbs : Int) else z % y
end Go.Proofs.Ytbalcjjeakdjkaa

/- ZDivs -/
namespace Go.Proofs.Ytbalcjjeakdjkaa
open Go.RowKit
set_option linter.unusedVariables false

theorem alloc1 (w : World) (o1 : Obj) : Below w.heap.size w (w.alloc o1) ∧ (w.alloc o1).heap.size = w.heap.size + 1 := ⟨(Below.refl _ _).alloc (Nat.le_refl _) _, by simp⟩
def fdv (z y : Int) : Int := if cmpI (z.tmod y) 0 * cmpI y 0 < 0 then z.tdiv y - 1 else z.tdiv y
def fmd (z y : Int) : Int := if cmpI (z.tmod y) 0 * cmpI y 0 < 0 then z.tmod y + y else z.tmod y
def edv (z y : Int) : Int := if cmpI (z.tmod y) 0 < 0 then z.tdiv y - cmpI y 0 else z.tdiv y
theorem tmod_small {z y : Int} (hy : y ≠ 0) : ((z.tmod y).natAbs : Int) < (y.natAbs : Int) ∧ (0 ≤ z → 0 ≤ z.tmod y) ∧ (z ≤ 0 → z.tmod y ≤ 0) ∧ z.tdiv y * y + z.tmod y = z := by
  have h0 : z.tdiv y * y + z.tmod y = z := by rw [Int.mul_comm]; exact Int.mul_tdiv_add_tmod z y
  have h1 := Int.tmod_eq_emod (a := z) (b := y)
  have h2 := Int.emod_nonneg z hy
  have h3 : z % y < (y.natAbs : Int) := by
    by_cases h : 0 < y
    · have := Int.emod_lt_of_pos z h
      omega
    · have := Int.emod_lt_of_pos z (b := -y) (by omega)
      rw [Int.emod_neg] at this
      omega
  have h4 : 0 ≤ z → 0 ≤ z.tmod y := fun h => by
    rw [if_pos (.inl h)] at h1
    omega
  have h5 : z ≤ 0 → z.tmod y ≤ 0 := fun h => by
    have h6 := Int.tmod_eq_emod (a := -z) (b := y)
    rw [if_pos (.inl (by omega)), Int.neg_tmod] at h6
    have h7 := Int.emod_nonneg (-z) hy
    omega
  refine ⟨?_, h4, h5, h0⟩
  by_cases h : 0 ≤ z
  · rw [if_pos (.inl h)] at h1
    omega
  · have h6 := Int.tmod_eq_emod (a := -z) (b := y)
    rw [if_pos (.inl (by omega)), Int.neg_tmod] at h6
    have h7 := Int.emod_nonneg (-z) hy
    have h8 : (-z) % y < (y.natAbs : Int) := by
      by_cases h : 0 < y
      · have := Int.emod_lt_of_pos (-z) h
        omega
      · have := Int.emod_lt_of_pos (-z) (b := -y) (by omega)
        rw [Int.emod_neg] at this
        omega
    omega
/-- All that the law asks of the three divisions. -/
structure Divs (A B : Int) : Prop where
  t1 : A.tdiv B * B + A.tmod B = A
  t2 : ((A.tmod B).natAbs : Int) < (B.natAbs : Int)
  t3 : ¬ cmpI (A.tmod B) 0 * cmpI A 0 < 0
  f1 : fdv A B * B + fmd A B = A
  f2 : ((fmd A B).natAbs : Int) < (B.natAbs : Int)
  f3 : ¬ cmpI (fmd A B) 0 * cmpI B 0 < 0
  e1 : edv A B * B + A % B = A
  e2 : 0 ≤ A % B ∧ A % B < (B.natAbs : Int)
  n1 : A.tmod B ≠ 0 → fmd A B ≠ 0 ∧ A % B ≠ 0
  n2 : A.tmod B = 0 → fdv A B = A.tdiv B ∧ edv A B = A.tdiv B
theorem sign_cases (x : Int) : (x < 0 ∧ cmpI x 0 = -1) ∨ (x = 0 ∧ cmpI x 0 = 0) ∨ (0 < x ∧ cmpI x 0 = 1) := cmp_cases x 0
theorem sgn_prod (R B : Int) : cmpI R 0 * cmpI B 0 < 0 ↔ ((R < 0 ∧ 0 < B) ∨ (0 < R ∧ B < 0)) := by
  rcases sign_cases R with ⟨r1, r2⟩ | ⟨r1, r2⟩ | ⟨r1, r2⟩ <;> rcases sign_cases B with ⟨b1, b2⟩ | ⟨b1, b2⟩ | ⟨b1, b2⟩ <;> rw [r2, b2] <;> omega
theorem sgn_abs (B : Int) : cmpI B 0 * B = (B.natAbs : Int) := by
  rcases sign_cases B with ⟨b1, b2⟩ | ⟨b1, b2⟩ | ⟨b1, b2⟩ <;> rw [b2] <;> omega
theorem sgn_neg (R : Int) : cmpI R 0 < 0 ↔ R < 0 := by
  rcases sign_cases R with ⟨r1, r2⟩ | ⟨r1, r2⟩ | ⟨r1, r2⟩ <;> rw [r2] <;> omega
theorem divs {A B : Int} (hB : B ≠ 0) : Divs A B := by
  obtain ⟨h1, h2, h3, h4⟩ := tmod_small (z := A) hB
  obtain ⟨h5, h5'⟩ := euclid_bits (z := A) hB
  have h6 := Int.emod_nonneg A hB
  have hs := sgn_abs B
  refine ⟨h4, h1, ?_, ?_, ?_, ?_, ?_, ⟨h6, ?_⟩, ?_, ?_⟩
  · rw [sgn_prod]; omega
  · unfold fdv fmd
    split
    · rw [Int.sub_mul]; omega
    · exact h4
  · unfold fmd
    split
    · rename_i h
      rw [sgn_prod] at h
      omega
    · exact h1
  · rw [sgn_prod]
    unfold fmd
    split <;> rename_i h <;> rw [sgn_prod] at h <;> omega
  · unfold edv
    split <;> rename_i h <;> rw [sgn_neg] at h
    · rw [Int.sub_mul, hs, ← h5 h]; omega
    · rw [← h5' h]; exact h4
  · by_cases h : A.tmod B < 0
    · rw [← h5 h]; omega
    · rw [← h5' h]; omega
  · intro hR
    refine ⟨?_, ?_⟩
    · unfold fmd
      split
      · omega
      · exact hR
    · by_cases h : A.tmod B < 0
      · rw [← h5 h]; omega
      · rw [← h5' h]; exact hR
  · intro hR
    refine ⟨?_, ?_⟩
    · unfold fdv
      rw [if_neg]
      rw [sgn_prod]; omega
    · unfold edv
      rw [if_neg]
      rw [sgn_neg]; omega

end Go.Proofs.Ytbalcjjeakdjkaa

/- Less6 -/
namespace Go.Proofs.Ytbalcjjeakdjkaa
open Go.RowKit
set_option linter.unusedVariables false

theorem pair_eq {x0 x1 y0 y1 : Value} (h : #[x0, x1] = #[y0, y1]) : x0 = y0 ∧ x1 = y1 := by simpa using h
theorem int_as6 {F : FuncId} {args : Array Value} {w : World} {X Y : Int} (h : Calls Try.prog F args w fun e w' => e = .returned (.int .i64 X) ∧ Below w.heap.size w w') (e : X = Y) : Calls Try.prog F args w fun e w' => e = .returned (.int .i64 Y) ∧ Below w.heap.size w w' := by subst e; exact h
theorem Zi.comp {w : World} {v0 v1 : Value} {z : Int} {k : Nat} (h : Zi w (.agg #[v0, v1]) z k) : ∃ n, ∃ xs : List Int, ∃ a c, v0 = .bool n ∧ v1 = .slice a xs.length c := by
  obtain ⟨n, xs, a, c, e, _⟩ := h
  obtain ⟨e1, e2⟩ := pair_eq (show #[v0, v1] = _ by simpa using e)
  exact ⟨n, xs, a, c, e1, e2⟩
theorem cel_at {w : World} {b : Nat} {T : TypeId} {L : List Value} (hb : w.heap.size = b) : Cel (w.alloc (.cells L.toArray T)) b T L := by subst hb; exact Cel.new w T L
theorem cel_late {w : World} {b : Nat} {T : TypeId} {L : List Value} (h : Cel w b T L) (o : Obj) : Cel (w.alloc o) b T L := h.step ((Below.refl _ _).alloc (Nat.le_refl _) o)
/-- A row is no list of words. -/
theorem Row.cel {w : World} {g b i : Nat} {L : List Value} {T : TypeId} {M : List Value} {u : Value} (h : Row w g L) (d : Cel w b T M) (hT : T ≠ 70) : Row (w.setCell ⟨b, i, none⟩ u) g L := by
  have hne : g ≠ b := fun e => by
    subst e
    have := (show w.heap[g]? = _ from h).symm.trans (show w.heap[g]? = _ from d)
    simp at this
    exact hT this.2.symm
  exact (Below.heap_setCell w _ u g (fun e => hne (by simpa using e))).trans h
theorem Mine.cel {B : Nat} {w : World} {v : Value} {zs : List Int} (h : Mine B w v zs) {b i : Nat} {T : TypeId} {M : List Value} {u : Value} (d : Cel w b T M) (hT : T ≠ 70) : Mine B (w.setCell ⟨b, i, none⟩ u) v zs := by
  obtain ⟨hw, h | ⟨g, r, cap, h1, h2, h3, h4, h5, h6⟩⟩ := h
  · exact ⟨hw, .inl h⟩
  · exact ⟨hw, .inr ⟨g, r, cap, h1, h2, h3, h4, h5, h6.cel d hT⟩⟩
theorem Zm.cel {B : Nat} {w : World} {v : Value} {z : Int} {k : Nat} (h : Zm B w v z k) {b i : Nat} {T : TypeId} {M : List Value} {u : Value} (d : Cel w b T M) (hT : T ≠ 70) : Zm B (w.setCell ⟨b, i, none⟩ u) v z k := by
  obtain ⟨n, xs, a, c, h1, h2, h3⟩ := h
  exact ⟨n, xs, a, c, h1, h2.cel d hT, h3⟩
end Go.Proofs.Ytbalcjjeakdjkaa

/- ZMet -/
namespace Go.Proofs.Ytbalcjjeakdjkaa
open Go.RowKit
set_option linter.unusedVariables false

def MetB (W wx : World) (s1 : Value) (z : Int) (k : Nat) : Prop :=
  ∃ bk n, ∃ x : List Int, ∃ a c, s1 = .pointer (some ⟨bk, 0, none⟩) ∧ Below W.heap.size W wx ∧ W.heap.size ≤ bk ∧ bk < wx.heap.size ∧ Duo wx bk (.bool n) (.slice a x.length c) ∧ Zm W.heap.size wx (.agg #[.bool n, .slice a x.length c]) z k
theorem duo_calls {w0 w' : World} (b : Below (w0.alloc zbox).heap.size (w0.alloc zbox) w') : Duo w' w0.heap.size (.bool false) (.slice none 0 0) := (Duo.new w0 _ _).below b (by simp)
theorem duo_calls_d {w0 w' : World} (b : Below (w0.alloc zbox).drew.heap.size (w0.alloc zbox).drew w') : Duo w' w0.heap.size (.bool false) (.slice none 0 0) := (Duo.new w0 _ _).drew.below b (by simp [World.drew])
theorem metb_set {W w2 : World} {bk B : Nat} {n : Bool} {t : List Int} {a : Option Addr} {c k : Nat} {z : Int} (D : Duo w2 bk (.bool false) (.slice none 0 0)) (M : Zm B w2 (.agg #[.bool n, .slice a t.length c]) z k) (HP : Below W.heap.size W w2) (h1 : W.heap.size ≤ bk) (h2 : W.heap.size ≤ B) :
    MetB W ((w2.setCell ⟨bk, 0, none⟩ (.bool n)).setCell ⟨bk, 1, none⟩ (.slice a t.length c)) (.pointer (some ⟨bk, 0, none⟩)) z k :=
  ⟨bk, n, t, a, c, rfl, bset (bset HP h1) h1, h1, (D.set _ _).blk, D.set _ _, (M.box D _ _).mono h2⟩
theorem metb_new {W w2 : World} {B : Nat} {n : Bool} {t : List Int} {a : Option Addr} {c k : Nat} {z : Int} (M : Zm B w2 (.agg #[.bool n, .slice a t.length c]) z k) (HP : Below W.heap.size W w2) (h2 : W.heap.size ≤ B) :
    MetB W (w2.alloc (duo (.bool n) (.slice a t.length c))) (.pointer (some ⟨w2.heap.size, 0, none⟩)) z k := by
  have k := (Below.refl w2.heap.size w2).alloc (Nat.le_refl _) (duo (.bool n) (.slice a t.length c))
  exact ⟨w2.heap.size, n, t, a, c, rfl, below_step HP k, HP.size, by simp, Duo.new w2 _ _, (M.now k).mono h2⟩
end Go.Proofs.Ytbalcjjeakdjkaa

/- MWord -/
namespace Go.Proofs.Ytbalcjjeakdjkaa
open Go.RowKit
set_option linter.unusedVariables false

theorem word_zero (xs : List Int) (n : Nat) : (List.replicate n (0 : Int)).drop n = [] := by simp
end Go.Proofs.Ytbalcjjeakdjkaa

/- GcdAll -/
namespace Go.Proofs.Ytbalcjjeakdjkaa
open Go.RowKit
set_option linter.unusedVariables false

/- Lehmer -/

def ig (u v : Int) : Nat := Nat.gcd u.toNat v.toNat
theorem ig_step {u v q r : Int} (hu : 0 ≤ u) (hv : 0 < v) (hr0 : 0 ≤ r) (hr1 : r < v) (h : u - q * v = r) : ig v r = ig u v := by
  obtain ⟨U, rfl⟩ := Int.eq_ofNat_of_zero_le hu
  obtain ⟨V, rfl⟩ := Int.eq_ofNat_of_zero_le (Int.le_of_lt hv)
  obtain ⟨R, rfl⟩ := Int.eq_ofNat_of_zero_le hr0
  have hm : U % V = R := by
    have h1 : ((U % V : Nat) : Int) = (U : Int) % (V : Int) := by simp
    have h2 : (U : Int) % (V : Int) = (R : Int) := by
      have e : (U : Int) = (R : Int) + (V : Int) * q := by rw [Int.mul_comm]; omega
      rw [e, Int.add_mul_emod_self_left, Int.emod_eq_of_lt hr0 hr1]
    omega
  unfold ig
  simp only [Int.toNat_natCast]
  rw [← hm, Nat.gcd_comm U V, Nat.gcd_rec V U, Nat.gcd_comm]

/-- Where the steps by heads stand. -/
def LehAt (xh yh A B C D x y : Int) : Prop :=
  x = A * xh + B * yh ∧ y = C * xh + D * yh ∧ (0 ≤ x + A ∧ x + A ≤ 1152921504606846976) ∧ (0 ≤ x + B ∧ x + B ≤ 1152921504606846976) ∧ (0 ≤ y + C ∧ y + C ≤ 1152921504606846976) ∧ (0 ≤ y + D ∧ y + D ≤ 1152921504606846976) ∧
    ((0 ≤ A ∧ B ≤ 0 ∧ C ≤ 0 ∧ 0 ≤ D) ∨ (A ≤ 0 ∧ 0 ≤ B ∧ 0 ≤ C ∧ D ≤ 0))
theorem LehAt.start {xh yh : Int} (h0 : 0 ≤ xh) (h1 : xh < 1152921504606846976) (k0 : 0 ≤ yh) (k1 : yh < 1152921504606846976) : LehAt xh yh 1 0 0 1 xh yh :=
  ⟨by omega, by omega, by omega, by omega, by omega, by omega, .inl (by omega)⟩
theorem LehAt.bounds {xh yh A B C D x y : Int} (h : LehAt xh yh A B C D x y) : (-1152921504606846976 ≤ A ∧ A ≤ 1152921504606846976) ∧ (-1152921504606846976 ≤ B ∧ B ≤ 1152921504606846976) ∧ (-1152921504606846976 ≤ C ∧ C ≤ 1152921504606846976) ∧ (-1152921504606846976 ≤ D ∧ D ≤ 1152921504606846976) ∧ (0 ≤ x ∧ x ≤ 1152921504606846976) ∧ (0 ≤ y ∧ y ≤ 1152921504606846976) := by
  obtain ⟨_, _, h1, h2, h3, h4, h5⟩ := h
  rcases h5 with h5 | h5 <;> exact ⟨by omega, by omega, by omega, by omega, by omega, by omega⟩
theorem LehAt.step {xh yh A B C D x y q : Int} (h : LehAt xh yh A B C D x y) (hc : 0 < y + C) (hd : 0 < y + D) (h1 : (x + A) / (y + C) = q) (h2 : (x + B) / (y + D) = q) :
    LehAt xh yh C D (A - q * C) (B - q * D) y (x - q * y) ∧ 0 ≤ q ∧ (x - q * y) + (A - q * C) < y + C ∧ (x - q * y) + (B - q * D) < y + D := by
  obtain ⟨e1, e2, a1, a2, a3, a4, a5⟩ := h
  have q0 : 0 ≤ q := by rw [← h1]; exact Int.ediv_nonneg a1.1 (by omega)
  have m1 := Int.mul_ediv_add_emod (x + A) (y + C)
  have m2 := Int.mul_ediv_add_emod (x + B) (y + D)
  have n1 := Int.emod_nonneg (x + A) (show y + C ≠ 0 by omega)
  have n2 := Int.emod_lt_of_pos (x + A) hc
  have n3 := Int.emod_nonneg (x + B) (show y + D ≠ 0 by omega)
  have n4 := Int.emod_lt_of_pos (x + B) hd
  rw [h1, Int.add_mul] at m1
  rw [h2, Int.add_mul] at m2
  rw [Int.mul_comm q C, Int.mul_comm q D, Int.mul_comm q y]
  have c1 : 0 ≤ q * (-C) ∨ 0 ≤ q * C := by
    rcases a5 with a5 | a5
    · exact .inl (Int.mul_nonneg q0 (by omega))
    · exact .inr (Int.mul_nonneg q0 (by omega))
  refine ⟨⟨e2, ?_, by omega, by omega, by omega, by omega, ?_⟩, q0, by omega, by omega⟩
  · rw [e1, e2]
    grind
  · rcases a5 with a5 | a5
    · right
      have k1 := Int.mul_nonneg q0 (show 0 ≤ -C by omega)
      have k2 := Int.mul_nonneg q0 a5.2.2.2
      rw [Int.mul_neg, Int.mul_comm] at k1
      rw [Int.mul_comm] at k2
      omega
    · left
      have k1 := Int.mul_nonneg q0 (show 0 ≤ -D by omega)
      have k2 := Int.mul_nonneg q0 a5.2.2.1
      rw [Int.mul_neg, Int.mul_comm] at k1
      rw [Int.mul_comm] at k2
      omega

/-- A number by its head, between its ends. -/
theorem leh_ends {P al be S T X : Int} (hP : 0 < P) (a0 : 0 ≤ al) (a1 : al < P) (b0 : 0 ≤ be) (b1 : be < P) (hS : 0 ≤ S) (hT : T ≤ 0) : P * (X + T) ≤ P * X + (S * al + T * be) ∧ P * X + (S * al + T * be) ≤ P * (X + S) := by
  have k1 := Int.mul_nonneg hS a0
  have k2 := Int.mul_le_mul_of_nonneg_left (Int.le_of_lt a1) hS
  have k3 := Int.mul_nonneg (show 0 ≤ -T by omega) b0
  have k4 := Int.mul_le_mul_of_nonneg_left (Int.le_of_lt b1) (show 0 ≤ -T by omega)
  rw [Int.neg_mul] at k3 k4
  rw [Int.neg_mul] at k4
  rw [Int.mul_add, Int.mul_add, Int.mul_comm P T, Int.mul_comm P S]
  omega
def EucAt (xh yh A B C D : Int) : Prop := ∀ P al be : Int, 0 < P → 0 ≤ al → al < P → 0 ≤ be → be < P →
  0 ≤ A * (xh * P + al) + B * (yh * P + be) ∧ 0 ≤ C * (xh * P + al) + D * (yh * P + be) ∧ ig (A * (xh * P + al) + B * (yh * P + be)) (C * (xh * P + al) + D * (yh * P + be)) = ig (xh * P + al) (yh * P + be) ∧
    ((A = 1 ∧ B = 0 ∧ C = 0 ∧ D = 1) ∨ (C ≠ 0 ∧ C * (xh * P + al) + D * (yh * P + be) < A * (xh * P + al) + B * (yh * P + be) ∧ C * (xh * P + al) + D * (yh * P + be) < yh * P + be ∧ A * (xh * P + al) + B * (yh * P + be) ≤ yh * P + be))
theorem EucAt.start {xh yh : Int} (h0 : 0 ≤ xh) (k0 : 0 ≤ yh) : EucAt xh yh 1 0 0 1 := fun P al be hP a0 a1 b0 b1 => by
  have m1 := Int.mul_nonneg h0 (Int.le_of_lt hP)
  have m2 := Int.mul_nonneg k0 (Int.le_of_lt hP)
  have e1 : 1 * (xh * P + al) + 0 * (yh * P + be) = xh * P + al := by omega
  have e2 : 0 * (xh * P + al) + 1 * (yh * P + be) = yh * P + be := by omega
  rw [e1, e2]
  exact ⟨by omega, by omega, rfl, .inl ⟨rfl, rfl, rfl, rfl⟩⟩
theorem leh_form (A B xh yh P al be x : Int) (h : x = A * xh + B * yh) : A * (xh * P + al) + B * (yh * P + be) = P * x + (A * al + B * be) := by
  subst h
  grind
theorem leh_form' (A B xh yh P al be x : Int) (h : x = A * xh + B * yh) : A * (xh * P + al) + B * (yh * P + be) = P * x + (B * be + A * al) := by
  subst h
  grind
theorem leh_rest {xh yh A B C D x y q P al be : Int} (h : LehAt xh yh A B C D x y) (hc : 0 < y + C) (hd : 0 < y + D) (h1 : (x + A) / (y + C) = q) (h2 : (x + B) / (y + D) = q) (hP : 0 < P) (a0 : 0 ≤ al) (a1 : al < P) (b0 : 0 ≤ be) (b1 : be < P) :
    0 < C * (xh * P + al) + D * (yh * P + be) ∧ 0 ≤ (A - q * C) * (xh * P + al) + (B - q * D) * (yh * P + be) ∧ (A - q * C) * (xh * P + al) + (B - q * D) * (yh * P + be) < C * (xh * P + al) + D * (yh * P + be) := by
  obtain ⟨hn, q0, l1, l2⟩ := h.step hc hd h1 h2
  obtain ⟨_, f2, _, _, n3, n4, n5⟩ := hn
  obtain ⟨_, e2, _, _, _, _, a5⟩ := h
  rcases a5 with a5 | a5
  · -- C ≤ 0 ≤ D
    have v := leh_ends (X := y) hP b0 b1 a0 a1 a5.2.2.2 a5.2.2.1
    rw [leh_form' C D xh yh P al be y e2]
    have hs : 0 ≤ A - q * C ∧ B - q * D ≤ 0 := by
      have k1 := Int.mul_nonneg q0 (show 0 ≤ -C by omega)
      have k2 := Int.mul_nonneg q0 a5.2.2.2
      rw [Int.mul_neg] at k1
      omega
    have r := leh_ends (X := x - q * y) hP a0 a1 b0 b1 hs.1 hs.2
    rw [leh_form (A - q * C) (B - q * D) xh yh P al be (x - q * y) f2]
    have z0 := Int.mul_nonneg (Int.le_of_lt hP) n4.1
    have z1 := Int.mul_le_mul_of_nonneg_left (show (x - q * y) + (A - q * C) ≤ y + C - 1 by omega) (Int.le_of_lt hP)
    have z2 := Int.mul_pos hP hc
    rw [Int.mul_sub, Int.mul_one] at z1
    omega
  · have v := leh_ends (X := y) hP a0 a1 b0 b1 a5.2.2.1 a5.2.2.2
    rw [leh_form C D xh yh P al be y e2]
    have hs : A - q * C ≤ 0 ∧ 0 ≤ B - q * D := by
      have k1 := Int.mul_nonneg q0 (show 0 ≤ -D by omega)
      have k2 := Int.mul_nonneg q0 a5.2.2.1
      rw [Int.mul_neg] at k1
      omega
    have r := leh_ends (X := x - q * y) hP b0 b1 a0 a1 hs.2 hs.1
    rw [leh_form' (A - q * C) (B - q * D) xh yh P al be (x - q * y) f2]
    have z0 := Int.mul_nonneg (Int.le_of_lt hP) n3.1
    have z1 := Int.mul_le_mul_of_nonneg_left (show (x - q * y) + (B - q * D) ≤ y + D - 1 by omega) (Int.le_of_lt hP)
    have z2 := Int.mul_pos hP hd
    rw [Int.mul_sub, Int.mul_one] at z1
    omega
theorem leh_sub (A B C D q a b : Int) : (A - q * C) * a + (B - q * D) * b = (A * a + B * b) - q * (C * a + D * b) := by grind
theorem EucAt.step {xh yh A B C D x y q : Int} (h : LehAt xh yh A B C D x y) (he : EucAt xh yh A B C D) (hc : 0 < y + C) (hd : 0 < y + D) (h1 : (x + A) / (y + C) = q) (h2 : (x + B) / (y + D) = q) : EucAt xh yh C D (A - q * C) (B - q * D) := fun P al be hP a0 a1 b0 b1 => by
  obtain ⟨v0, r0, r1⟩ := leh_rest h hc hd h1 h2 hP a0 a1 b0 b1
  obtain ⟨u0, _, g, alt⟩ := he P al be hP a0 a1 b0 b1
  have hst := ig_step (q := q) u0 v0 r0 r1 (leh_sub A B C D q _ _).symm
  refine ⟨Int.le_of_lt v0, r0, hst.trans g, .inr ?_⟩
  have hC : A - q * C ≠ 0 := by
    rcases alt with ⟨rfl, rfl, rfl, rfl⟩ | ⟨hCn, _, _, _⟩
    · omega
    · obtain ⟨w0, s0, s1⟩ := leh_rest h hc hd h1 h2 (P := 1) (al := 0) (be := 0) (by omega) (by omega) (by omega) (by omega) (by omega)
      obtain ⟨_, _, _, alt1⟩ := he 1 0 0 (by omega) (by omega) (by omega) (by omega) (by omega)
      rw [leh_sub] at s1
      rcases alt1 with ⟨_, _, hc0, _⟩ | ⟨_, hlt, _, _⟩
      · exact absurd hc0 hCn
      · obtain ⟨_, q0, _, _⟩ := h.step hc hd h1 h2
        have hq1 : 1 ≤ q := by
          rcases Int.lt_or_eq_of_le q0 with t | t
          · omega
          · rw [← t, Int.zero_mul] at s1; omega
        obtain ⟨_, _, _, _, _, _, a5⟩ := h
        rcases a5 with a5 | a5
        · have := Int.mul_le_mul_of_nonneg_right hq1 (show 0 ≤ -C by omega)
          rw [Int.one_mul, Int.mul_neg] at this
          omega
        · have := Int.mul_le_mul_of_nonneg_right hq1 (show 0 ≤ C by omega)
          rw [Int.one_mul] at this
          omega
  refine ⟨hC, r1, ?_, ?_⟩
  · rcases alt with ⟨rfl, rfl, rfl, rfl⟩ | ⟨_, _, hb, _⟩
    · omega
    · omega
  · rcases alt with ⟨rfl, rfl, rfl, rfl⟩ | ⟨_, _, hb, _⟩
    · omega
    · omega

/- Shares -/

/-- What shares answers. -/
def Shared (xh yh : Int) (w : World) (e : Ending) (w' : World) : Prop :=
  ∃ A B C D : Int, e = .returned (.tuple #[.agg #[.int .i64 A, .int .i64 B], .agg #[.int .i64 C, .int .i64 D]]) ∧ (∃ x y, LehAt xh yh A B C D x y) ∧ EucAt xh yh A B C D ∧ Below w.heap.size w w'

theorem sub_own {w : World} {v u : Value} {xs ys : List Int} (h : Sl w.heap.size w v xs) (h' : Sl w.heap.size w u ys) (hge : val ys ≤ val xs) :
    Calls Try.prog 84 #[v, u] w fun e w' => ∃ zs a cap, e = .returned (.tuple #[.slice a zs.length cap, .int .i64 0]) ∧ Own w.heap.size w' (.slice a zs.length cap) zs ∧ Canon zs ∧ val zs = val xs - val ys ∧ Below w.heap.size w w' :=
  (sub_yes h h' hge).mono fun e w' ht => by
    obtain ⟨zs, cap, r, h1, h2, h3, h4, h5, h6, h7, h8, h9⟩ := ht
    subst h5
    exact ⟨zs, _, _, h1, ⟨h2.1, .inr ⟨w.heap.size, r, Nat.le_refl _, h6, rfl, h7⟩⟩, h2, h3, h8⟩
/-- A call that makes one number. -/
def MadeOf (w : World) (u : Int) (e : Ending) (w' : World) : Prop := ∃ zs r, e = .returned r ∧ Own w.heap.size w' r zs ∧ Canon zs ∧ val zs = u ∧ Below w.heap.size w w'

/-- Two lesser numbers with the same common divisors. -/
def Neared (B0 : Nat) (w : World) (X Y : Int) (e : Ending) (w' : World) : Prop :=
  ∃ us vs ru rv, e = .returned (.tuple #[ru, rv]) ∧ Own B0 w' ru us ∧ Own B0 w' rv vs ∧ Canon us ∧ Canon vs ∧ ig (val us) (val vs) = ig X Y ∧ val vs ≤ val us ∧ val vs < Y ∧ val us ≤ Y ∧ Below w.heap.size w w'

theorem bitLen_bounds {v : Nat} (h : v ≠ 0) : v < 2 ^ bitLen v ∧ 2 ^ (bitLen v - 1) ≤ v := by
  have e : bitLen v = Nat.log2 v + 1 := by unfold bitLen; rw [if_neg h]
  rw [e]
  exact ⟨Nat.lt_log2_self, by rw [Nat.add_sub_cancel]; exact Nat.log2_self_le h⟩

/-- What Gcd answers. -/
def Gcded (w : World) (X Y : Int) (e : Ending) (w' : World) : Prop :=
  ∃ zs r, e = .returned r ∧ Own w.heap.size w' r zs ∧ Canon zs ∧ val zs = (ig X Y : Int) ∧ Below w.heap.size w w'
theorem ig_comm (u v : Int) : ig u v = ig v u := by unfold ig; exact Nat.gcd_comm _ _
theorem ig_zero {u : Int} (h : 0 ≤ u) : (ig u 0 : Int) = u := by unfold ig; simp; omega

end Go.Proofs.Ytbalcjjeakdjkaa
