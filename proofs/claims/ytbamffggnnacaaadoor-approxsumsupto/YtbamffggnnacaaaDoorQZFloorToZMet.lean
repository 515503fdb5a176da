/-
  QZFloorToZMet: ZFloor, ZEuclid, ZMod, Zlaw0, ZDivs, ZMet, joined.
-/
import Derived.Test.YtbamffggnnacaaaDoorQZDiv
import Derived.Test.YtbamffggnnacaaaDoorQTail
import Derived.Test.YtbamffggnnacaaaDoorQStepsToExact0
import Derived.Test.YtbamffggnnacaaaDoorQWh7ToZStore
import Derived.Deep.Cut

/- ZFloor -/
namespace Go.Proofs.YtbamffggnnacaaaDoor
open Go.RowKit
set_option linter.unusedVariables false

theorem Duo.drew {w : World} {b : Nat} {x y : Value} (h : Duo w b x y) : Duo w.drew b x y := h
theorem gz2_drew {E : Int} {w W : World} {q r : Int} {k l : Nat} {e : Ending} (h : GivesZ2 E w q r k l e W) : GivesZ2 E w q r k l e W.drew := by
  obtain ⟨rq, rr, h1, h2, h3, h4⟩ := h
  exact ⟨rq, rr, h1, h2.now (Below.refl _ _).drew, h3.now (Below.refl _ _).drew, h4.drew⟩

end Go.Proofs.YtbamffggnnacaaaDoor

/- ZEuclid -/
namespace Go.Proofs.YtbamffggnnacaaaDoor
open Go.RowKit
set_option linter.unusedVariables false

end Go.Proofs.YtbamffggnnacaaaDoor

/- ZMod -/
namespace Go.Proofs.YtbamffggnnacaaaDoor
open Go.RowKit
set_option linter.unusedVariables false

theorem euclid_bits {z y : Int} (hy : y ≠ 0) : (z.tmod y < 0 → z.tmod y + (y.natAbs : Int) = z % y) ∧ (¬ z.tmod y < 0 → z.tmod y = z % y) := by
  have h1 := Int.tmod_eq_emod (a := z) (b := y)
  have h2 := Int.emod_nonneg z hy
  have h3 : z % y < (y.natAbs : Int) := by
    by_cases h : 0 < y
    · have := Int.emod_lt_of_pos z h
      omega
    · have := Int.emod_lt_of_pos z (b := -y) (by omega)
      rw [Int.emod_neg] at this
      omega
  split at h1 <;> constructor <;> intro h <;> omega
/-- The residue that is nearest to 0. -/
def symv (z y : Int) : Int := if (y.natAbs : Int) < ((z % y + z % y).natAbs : Int) then z % y - (y.natAbs : Int) else z % y
end Go.Proofs.YtbamffggnnacaaaDoor

/- Zlaw0 -/
namespace Go.Proofs.YtbamffggnnacaaaDoor
open Go.RowKit
set_option linter.unusedVariables false

theorem below_more {w0 w : World} {o : Obj} (h : Below w0.heap.size w0 w) : Below w0.heap.size w0 (w.alloc o) := h.alloc h.size o
theorem zm_zero {B : Nat} {w : World} {n : Bool} {xs : List Int} {a : Option Addr} {c k : Nat} {z : Int} (h : Zm B w (.agg #[.bool n, .slice a xs.length c]) z k) (hz : z = 0) : n = false ∧ xs = [] := by
  obtain ⟨n', xs', a', c', h1, h2, h3, h4, h5, h6⟩ := h
  simp only [Value.agg.injEq, Array.mk.injEq, List.cons.injEq, Value.bool.injEq, Value.slice.injEq, and_true] at h1
  obtain ⟨rfl, rfl, h7, rfl⟩ := h1
  have h0 : val xs' = 0 := by rw [hz] at h5; cases n <;> simp [iv] at h5 <;> exact h5
  have e : xs' = [] := canon_zero h3 h0
  subst e
  exact ⟨h4 rfl, List.eq_nil_of_length_eq_zero h7⟩
theorem zl_three {w : World} {x0 y0 x1 y1 x2 y2 : Value} {A B C : Int} {k : Nat} (ha : Zi w (.agg #[x0, y0]) A k) (hb : Zi w (.agg #[x1, y1]) B k) (hc : Zi w (.agg #[x2, y2]) C k) :
    Zl (w.alloc (.cells #[x0, y0, x1, y1, x2, y2] 24)) (.slice (some ⟨w.heap.size, 0, none⟩) 3 3) [A, B, C] k := by
  have b0 : Below w.heap.size w (w.alloc (.cells #[x0, y0, x1, y1, x2, y2] 24)) := (Below.refl _ _).alloc (Nat.le_refl _) _
  have h := heap_alloc_new w (.cells #[x0, y0, x1, y1, x2, y2] 24)
  have sz : w.heap.size < (w.alloc (.cells #[x0, y0, x1, y1, x2, y2] 24)).heap.size := by simp
  generalize w.alloc (.cells #[x0, y0, x1, y1, x2, y2] 24) = W at *
  refine ⟨_, 3, rfl, by simp, by simp, .inr ⟨w.heap.size, 0, rfl, sz, fun j hj => ?_⟩⟩
  simp only [List.length_cons, List.length_nil] at hj
  rcases (show j = 0 ∨ j = 1 ∨ j = 2 by omega) with rfl | rfl | rfl
  · exact ⟨x0, y0, by simp [World.cell?, h], by simp [World.cell?, h], ha.now b0⟩
  · exact ⟨x1, y1, by simp [World.cell?, h], by simp [World.cell?, h], hb.now b0⟩
  · exact ⟨x2, y2, by simp [World.cell?, h], by simp [World.cell?, h], hc.now b0⟩
theorem int_as {F : FuncId} {args : Array Value} {w : World} {X Y : Int} (h : Calls Tryd.prog F args w fun e w' => e = .returned (.int .i64 X) ∧ Below w.heap.size w w') (e : X = Y) : Calls Tryd.prog F args w fun e w' => e = .returned (.int .i64 Y) ∧ Below w.heap.size w w' := by
  subst e; exact h
theorem wrap_mul {x y : Int} (hx : -1 ≤ x ∧ x ≤ 1) (hy : -1 ≤ y ∧ y ≤ 1) : IntKind.i64.wrap (x * y) = x * y := by
  obtain ⟨h1, h2⟩ := hx
  obtain ⟨h3, h4⟩ := hy
  rcases (show x = -1 ∨ x = 0 ∨ x = 1 by omega) with rfl | rfl | rfl <;> rw [wrap_is] <;> omega
theorem cmp_cases (a b : Int) : (a < b ∧ cmpI a b = -1) ∨ (a = b ∧ cmpI a b = 0) ∨ (b < a ∧ cmpI a b = 1) := by
  rcases Int.lt_trichotomy a b with h | h | h
  · exact .inl ⟨h, cmpI_lt h⟩
  · subst h; exact .inr (.inl ⟨rfl, cmpI_self a⟩)
  · exact .inr (.inr ⟨h, cmpI_gt h⟩)
end Go.Proofs.YtbamffggnnacaaaDoor

/- ZDivs -/
namespace Go.Proofs.YtbamffggnnacaaaDoor
open Go.RowKit
set_option linter.unusedVariables false

theorem alloc1 (w : World) (o1 : Obj) : Below w.heap.size w (w.alloc o1) ∧ (w.alloc o1).heap.size = w.heap.size + 1 := ⟨(Below.refl _ _).alloc (Nat.le_refl _) _, by simp⟩
def fdv (z y : Int) : Int := if cmpI (z.tmod y) 0 * cmpI y 0 < 0 then z.tdiv y - 1 else z.tdiv y
def fmd (z y : Int) : Int := if cmpI (z.tmod y) 0 * cmpI y 0 < 0 then z.tmod y + y else z.tmod y
def edv (z y : Int) : Int := if cmpI (z.tmod y) 0 < 0 then z.tdiv y - cmpI y 0 else z.tdiv y
theorem tmod_small {z y : Int} (hy : y ≠ 0) : ((z.tmod y).natAbs : Int) < (y.natAbs : Int) ∧ (0 ≤ z → 0 ≤ z.tmod y) ∧ (z ≤ 0 → z.tmod y ≤ 0) ∧ z.tdiv y * y + z.tmod y = z := by
  have h0 : z.tdiv y * y + z.tmod y = z := by rw [Int.mul_comm]; exact Int.mul_tdiv_add_tmod z y
  have h1 := Int.tmod_eq_emod (a := z) (b := y)
  have h2 := Int.emod_nonneg z hy
  have h3 : z % y < (y.natAbs : Int) := by
    by_cases h : 0 < y
    · have := Int.emod_lt_of_pos z h
      omega
    · have := Int.emod_lt_of_pos z (b := -y) (by omega)
      rw [Int.emod_neg] at this
      omega
  have h4 : 0 ≤ z → 0 ≤ z.tmod y := fun h => by
    rw [if_pos (.inl h)] at h1
    omega
  have h5 : z ≤ 0 → z.tmod y ≤ 0 := fun h => by
    have h6 := Int.tmod_eq_emod (a := -z) (b := y)
    rw [if_pos (.inl (by omega)), Int.neg_tmod] at h6
    have h7 := Int.emod_nonneg (-z) hy
    omega
  refine ⟨?_, h4, h5, h0⟩
  by_cases h : 0 ≤ z
  · rw [if_pos (.inl h)] at h1
    omega
  · have h6 := Int.tmod_eq_emod (a := -z) (b := y)
    rw [if_pos (.inl (by omega)), Int.neg_tmod] at h6
    have h7 := Int.emod_nonneg (-z) hy
    have h8 : (-z) % y < (y.natAbs : Int) := by
      by_cases h : 0 < y
      · have := Int.emod_lt_of_pos (-z) h
        omega
      · have := Int.emod_lt_of_pos (-z) (b := -y) (by omega)
        rw [Int.emod_neg] at this
        omega
    omega
/-- All that the law asks of the three divisions. -/
structure Divs (A B : Int) : Prop where
  t1 : A.tdiv B * B + A.tmod B = A
  t2 : ((A.tmod B).natAbs : Int) < (B.natAbs : Int)
  t3 : ¬ cmpI (A.tmod B) 0 * cmpI A 0 < 0
  f1 : fdv A B * B + fmd A B = A
  f2 : ((fmd A B).natAbs : Int) < (B.natAbs : Int)
  f3 : ¬ cmpI (fmd A B) 0 * cmpI B 0 < 0
  e1 : edv A B * B + A % B = A
  e2 : 0 ≤ A % B ∧ A % B < (B.natAbs : Int)
  n1 : A.tmod B ≠ 0 → fmd A B ≠ 0 ∧ A % B ≠ 0
  n2 : A.tmod B = 0 → fdv A B = A.tdiv B ∧ edv A B = A.tdiv B
theorem sign_cases (x : Int) : (x < 0 ∧ cmpI x 0 = -1) ∨ (x = 0 ∧ cmpI x 0 = 0) ∨ (0 < x ∧ cmpI x 0 = 1) := cmp_cases x 0
theorem sgn_prod (R B : Int) : cmpI R 0 * cmpI B 0 < 0 ↔ ((R < 0 ∧ 0 < B) ∨ (0 < R ∧ B < 0)) := by
  rcases sign_cases R with ⟨r1, r2⟩ | ⟨r1, r2⟩ | ⟨r1, r2⟩ <;> rcases sign_cases B with ⟨b1, b2⟩ | ⟨b1, b2⟩ | ⟨b1, b2⟩ <;> rw [r2, b2] <;> omega
theorem sgn_abs (B : Int) : cmpI B 0 * B = (B.natAbs : Int) := by
  rcases sign_cases B with ⟨b1, b2⟩ | ⟨b1, b2⟩ | ⟨b1, b2⟩ <;> rw [b2] <;> omega
theorem sgn_neg (R : Int) : cmpI R 0 < 0 ↔ R < 0 := by
  rcases sign_cases R with ⟨r1, r2⟩ | ⟨r1, r2⟩ | ⟨r1, r2⟩ <;> rw [r2] <;> omega
theorem divs {A B : Int} (hB : B ≠ 0) : Divs A B := by
  obtain ⟨h1, h2, h3, h4⟩ := tmod_small (z := A) hB
  obtain ⟨h5, h5'⟩ := euclid_bits (z := A) hB
  have h6 := Int.emod_nonneg A hB
  have hs := sgn_abs B
  refine ⟨h4, h1, ?_, ?_, ?_, ?_, ?_, ⟨h6, ?_⟩, ?_, ?_⟩
  · rw [sgn_prod]; omega
  · unfold fdv fmd
    split
    · rw [Int.sub_mul]; omega
    · exact h4
  · unfold fmd
    split
    · rename_i h
      rw [sgn_prod] at h
      omega
    · exact h1
  · rw [sgn_prod]
    unfold fmd
    split <;> rename_i h <;> rw [sgn_prod] at h <;> omega
  · unfold edv
    split <;> rename_i h <;> rw [sgn_neg] at h
    · rw [Int.sub_mul, hs, ← h5 h]; omega
    · rw [← h5' h]; exact h4
  · by_cases h : A.tmod B < 0
    · rw [← h5 h]; omega
    · rw [← h5' h]; omega
  · intro hR
    refine ⟨?_, ?_⟩
    · unfold fmd
      split
      · omega
      · exact hR
    · by_cases h : A.tmod B < 0
      · rw [← h5 h]; omega
      · rw [← h5' h]; exact hR
  · intro hR
    refine ⟨?_, ?_⟩
    · unfold fdv
      rw [if_neg]
      rw [sgn_prod]; omega
    · unfold edv
      rw [if_neg]
      rw [sgn_neg]; omega

end Go.Proofs.YtbamffggnnacaaaDoor

/- ZMet -/
namespace Go.Proofs.YtbamffggnnacaaaDoor
open Go.RowKit
set_option linter.unusedVariables false

def MetB (W wx : World) (s1 : Value) (z : Int) (k : Nat) : Prop :=
  ∃ bk n, ∃ x : List Int, ∃ a c, s1 = .pointer (some ⟨bk, 0, none⟩) ∧ Below W.heap.size W wx ∧ W.heap.size ≤ bk ∧ bk < wx.heap.size ∧ Duo wx bk (.bool n) (.slice a x.length c) ∧ Zm W.heap.size wx (.agg #[.bool n, .slice a x.length c]) z k
theorem duo_calls {w0 w' : World} (b : Below (w0.alloc zbox).heap.size (w0.alloc zbox) w') : Duo w' w0.heap.size (.bool false) (.slice none 0 0) := (Duo.new w0 _ _).below b (by simp)
theorem duo_calls_d {w0 w' : World} (b : Below (w0.alloc zbox).drew.heap.size (w0.alloc zbox).drew w') : Duo w' w0.heap.size (.bool false) (.slice none 0 0) := (Duo.new w0 _ _).drew.below b (by simp [World.drew])
theorem metb_set {W w2 : World} {bk B : Nat} {n : Bool} {t : List Int} {a : Option Addr} {c k : Nat} {z : Int} (D : Duo w2 bk (.bool false) (.slice none 0 0)) (M : Zm B w2 (.agg #[.bool n, .slice a t.length c]) z k) (HP : Below W.heap.size W w2) (h1 : W.heap.size ≤ bk) (h2 : W.heap.size ≤ B) :
    MetB W ((w2.setCell ⟨bk, 0, none⟩ (.bool n)).setCell ⟨bk, 1, none⟩ (.slice a t.length c)) (.pointer (some ⟨bk, 0, none⟩)) z k :=
  ⟨bk, n, t, a, c, rfl, bset (bset HP h1) h1, h1, (D.set _ _).blk, D.set _ _, (M.box D _ _).mono h2⟩
theorem metb_new {W w2 : World} {B : Nat} {n : Bool} {t : List Int} {a : Option Addr} {c k : Nat} {z : Int} (M : Zm B w2 (.agg #[.bool n, .slice a t.length c]) z k) (HP : Below W.heap.size W w2) (h2 : W.heap.size ≤ B) :
    MetB W (w2.alloc (duo (.bool n) (.slice a t.length c))) (.pointer (some ⟨w2.heap.size, 0, none⟩)) z k := by
  have k := (Below.refl w2.heap.size w2).alloc (Nat.le_refl _) (duo (.bool n) (.slice a t.length c))
  exact ⟨w2.heap.size, n, t, a, c, rfl, below_step HP k, HP.size, by simp, Duo.new w2 _ _, (M.now k).mono h2⟩
end Go.Proofs.YtbamffggnnacaaaDoor
