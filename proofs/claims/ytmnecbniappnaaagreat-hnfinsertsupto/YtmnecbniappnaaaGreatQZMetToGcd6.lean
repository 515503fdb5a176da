/-
 QZMetToGcd6: ZMet, MWord, GcdAll, ExtPure, Gcd6, joined.
-/
import Derived.Test.YtmnecbniappnaaaGreatQZStoreToLst9
import Derived.Test.YtmnecbniappnaaaGreatQZModToLess6
import Derived.Deep.Cut
import Derived.Test.YtmnecbniappnaaaGreatQMulAllToOnes
import Derived.Test.YtmnecbniappnaaaGreatQDivMod
import Derived.Test.YtmnecbniappnaaaGreatQMadeToByWord
import Derived.Deep.RegionHeld3
import Derived.Deep.LoopGhost

set_option maxRecDepth 100000
set_option maxHeartbeats 6400000
set_option linter.unusedVariables false
set_option linter.unusedSimpArgs false
namespace Go.Proofs.YtmnecbniappnaaaGreat
open Go.RowKit


structure ExtV (A B g x y : Int) : Prop where
 gcd : g = (Int.gcd A B : Int)
 lin : A * x + B * y = g
 rng : B ≠ 0 → 0 ≤ x ∧ x * g < (B.natAbs : Int)
 zero : B = 0 → x = cmpI A 0 ∧ y = 0
structure ExtI (A B a b x0 y0 x1 y1 : Int) : Prop where
 ea : a = A * x0 + B * y0
 eb : b = A * x1 + B * y1
 det : x0 * y1 - x1 * y0 = 1 ∨ x0 * y1 - x1 * y0 = -1
 g : Int.gcd a b = Int.gcd A B
 bx : x1.natAbs * a.natAbs + x0.natAbs * b.natAbs ≤ B.natAbs
 by' : y1.natAbs * a.natAbs + y0.natAbs * b.natAbs ≤ A.natAbs
 cx0 : x0.natAbs ≤ max 1 B.natAbs
 cx1 : x1.natAbs ≤ max 1 B.natAbs
 cy0 : y0.natAbs ≤ max 1 A.natAbs
 cy1 : y1.natAbs ≤ max 1 A.natAbs
 zz : B = 0 → x0 = 1 ∧ y0 = 0 ∧ x1 = 0
theorem extI_start (A B : Int) : ExtI A B A B 1 0 0 1 := by
 refine ⟨by omega,by omega,.inl (by omega),rfl,by simp,by simp,?_,?_,?_,?_,fun _ => ⟨rfl,rfl,rfl⟩⟩ <;> simp <;> omega
theorem gcd_tmod (a b : Int) : Int.gcd b (a.tmod b) = Int.gcd a b := by
 unfold Int.gcd;rw [Int.natAbs_tmod,Nat.gcd_comm a.natAbs b.natAbs];exact (Nat.gcd_rec b.natAbs a.natAbs ▸ Nat.gcd_comm _ _)
theorem natAbs_split (a b : Int) : a.natAbs = (a.tdiv b).natAbs * b.natAbs + (a.tmod b).natAbs := by
 rw [Int.natAbs_tmod,Int.natAbs_tdiv];exact (Nat.div_add_mod' a.natAbs b.natAbs).symm
theorem zgC {x q y : Int} : (x - q * y).natAbs ≤ x.natAbs + q.natAbs * y.natAbs := by
 have := Int.natAbs_sub_le x (q * y)
 rwa [Int.natAbs_mul] at this
theorem zLE {x0 x1 q a b r B : Nat} {n : Nat} (hn : n ≤ x0 + q * x1) (ha : a = q * b + r) (h : x1 * a + x0 * b ≤ B) : n * b + x1 * r ≤ B := by
 have h1 : n * b ≤ (x0 + q * x1) * b := Nat.mul_le_mul_right b hn;have h2 : (x0 + q * x1) * b + x1 * r = x1 * a + x0 * b := by
  subst ha;simp only [Nat.add_mul,Nat.mul_add];have : q * x1 * b = x1 * (q * b) := by rw [Nat.mul_comm q x1,Nat.mul_assoc]
  omega
 omega
theorem ziC {n b m B : Nat} (hb : b ≠ 0) (h : n * b + m ≤ B) : n ≤ B := by
 have : n * 1 ≤ n * b := Nat.mul_le_mul_left n (by omega);omega
theorem ExtI.step {A B a b x0 y0 x1 y1 : Int} (h : ExtI A B a b x0 y0 x1 y1) (hb : b ≠ 0) :
  ExtI A B b (a.tmod b) x1 y1 (x0 - a.tdiv b * x1) (y0 - a.tdiv b * y1) ∧ (a.tmod b).natAbs < b.natAbs := by
 obtain ⟨ea,eb,det,g,bx,by',cx0,cx1,cy0,cy1,zz⟩ := h;have hd := (zJE (z := a) hb).2.2.2;have hs := natAbs_split a b;have hbn : b.natAbs ≠ 0 := by omega
 have nx := zLE (zgC (x := x0) (q := a.tdiv b) (y := x1)) hs bx;have ny := zLE (zgC (x := y0) (q := a.tdiv b) (y := y1)) hs by'
 refine ⟨⟨eb,?_,?_,(gcd_tmod a b).trans g,nx,ny,cx1,?_,cy1,?_,?_⟩,?_⟩
 ·generalize a.tdiv b = q at *
  generalize a.tmod b = r at *;have : r = a - q * b := by omega
  rw [this,ea,eb]
  grind
 ·generalize a.tdiv b = q at *
  rcases det with d | d
  ·exact .inr (by grind)
  ·exact .inl (by grind)
 ·exact Nat.le_trans (ziC hbn nx) (Nat.le_max_right _ _)
 ·exact Nat.le_trans (ziC hbn ny) (Nat.le_max_right _ _)
 ·intro e
  obtain ⟨q1,q2,_⟩ := zz e;subst e;rw [q1] at bx;simp at bx;omega
 ·rw [Int.natAbs_tmod]
  exact Nat.mod_lt _ (by omega)
theorem ExtI.last {A B a x0 y0 x1 y1 : Int} (h : ExtI A B a 0 x0 y0 x1 y1) :
  (a.natAbs : Int) = (Int.gcd A B : Int) ∧ a.natAbs * x1.natAbs = B.natAbs ∧ A * x1 + B * y1 = 0 ∧ A * (x0 * cmpI a 0) + B * (y0 * cmpI a 0) = (a.natAbs : Int) := by
 obtain ⟨ea,eb,det,g,bx,by',cx0,cx1,cy0,cy1,zz⟩ := h;refine ⟨?_,?_,by omega,?_⟩
 ·rw [← g];simp
 ·have e : a * x1 = -(B * (x0 * y1 - x1 * y0)) := by rw [ea];grind
  rw [← Int.natAbs_mul,e];rcases det with d | d <;> rw [d] <;> simp
 ·rw [show A * (x0 * cmpI a 0) + B * (y0 * cmpI a 0) = (A * x0 + B * y0) * cmpI a 0 by grind,← ea,Int.mul_comm]
  exact zmG a
theorem ExtI.none {A a x0 y0 x1 y1 : Int} (h : ExtI A 0 a 0 x0 y0 x1 y1) : ExtV A 0 (a.natAbs : Int) (x0 * cmpI a 0) (y0 * cmpI a 0) := by
 obtain ⟨l1,l2,l3,l4⟩ := h.last;obtain ⟨q1,q2,_⟩ := h.zz rfl;have ea := h.ea;refine ⟨l1,l4,fun e => absurd rfl e,fun _ => ?_⟩;subst q1 q2;have : a = A := by omega
 subst this
 simp
theorem ExtI.some {A B a x0 y0 x1 y1 : Int} (h : ExtI A B a 0 x0 y0 x1 y1) (hB : B ≠ 0) : x1 ≠ 0 ∧ ∀ t l : Int,t * x1 + l = x0 * cmpI a 0 → 0 ≤ l → l < (x1.natAbs : Int) → ExtV A B (a.natAbs : Int) l (y0 * cmpI a 0 - t * y1) := by
 obtain ⟨l1,l2,l3,l4⟩ := h.last;have hx : x1 ≠ 0 := fun e => by subst e;simp at l2;omega
 refine ⟨hx,fun t l ht h0 hl => ⟨l1,?_,fun _ => ⟨h0,?_⟩,fun e => absurd e hB⟩⟩
 ·rw [← l4,← ht]
  have e : A * l + B * (y0 * cmpI a 0 - t * y1) = A * (t * x1 + l) + B * (y0 * cmpI a 0) - t * (A * x1 + B * y1) := by grind
  rw [e,l3];omega
 ·have ha : 0 < a.natAbs := Nat.pos_of_ne_zero (fun e => by rw [e] at l2;simp at l2;omega)
  have e : (B.natAbs : Int) = (x1.natAbs : Int) * (a.natAbs : Int) := by rw [← l2];push_cast;exact Int.mul_comm _ _
  rw [e];exact Int.mul_lt_mul_of_pos_right hl (by omega)
theorem ExtV.small {A B g x y : Int} (h : ExtV A B g x y) : x.natAbs ≤ max 1 B.natAbs ∧ y.natAbs ≤ max 1 A.natAbs ∧ (A ≠ 0 → B ≠ 0 → y.natAbs * g.natAbs ≤ A.natAbs) := by
 obtain ⟨hg,hl,hr,hz⟩ := h;have bc := zOA A 0
 by_cases hB : B = 0
 ·obtain ⟨q1,q2⟩ := hz hB
  subst q1 q2;exact ⟨by omega,by simp,fun _ e => absurd hB e⟩
 ·obtain ⟨x0,xg⟩ := hr hB
  have gB : g.natAbs ∣ B.natAbs := by rw [hg];exact Nat.gcd_dvd_right _ _
  have gA : g.natAbs ∣ A.natAbs := by rw [hg];exact Nat.gcd_dvd_left _ _
  have g0 : 0 < g := by
   have : 0 < Int.gcd A B := Int.gcd_pos_of_ne_zero_right A hB;omega
  have x1 : x.natAbs ≤ B.natAbs := by
   have : x * 1 ≤ x * g := Int.mul_le_mul_of_nonneg_left (by omega) x0;omega
  refine ⟨by omega,?_⟩;obtain ⟨u,hu⟩ := gA;obtain ⟨v,hv⟩ := gB;have hv0 : 0 < v := Nat.pos_of_ne_zero (fun e => by rw [e] at hv;simp at hv;omega);have gn : 0 < g.natAbs := by omega
  have xv : x.natAbs + 1 ≤ v := by
   have h1 : x.natAbs * g.natAbs < g.natAbs * v := by
    rw [← hv,← Int.natAbs_mul];have := Int.mul_nonneg x0 (Int.le_of_lt g0);omega
   rw [Nat.mul_comm g.natAbs v] at h1;exact Nat.lt_of_mul_lt_mul_right h1
  have e : B.natAbs * y.natAbs ≤ g.natAbs + A.natAbs * x.natAbs := by
   have : B * y = g - A * x := by omega
   rw [← Int.natAbs_mul,this,← Int.natAbs_mul];exact Int.natAbs_sub_le _ _
  -- v |y| <= 1 + u |x| <= 1 + u (v - 1)
  have e2 : v * y.natAbs ≤ 1 + u * x.natAbs := by
   rw [hv,hu,Nat.mul_assoc,Nat.mul_assoc] at e;have e3 : g.natAbs * (v * y.natAbs) ≤ g.natAbs * (1 + u * x.natAbs) := by rw [Nat.mul_add,Nat.mul_one];exact e
   exact Nat.le_of_mul_le_mul_left e3 gn
  have e4 : u * x.natAbs + u ≤ u * v := by
   have := Nat.mul_le_mul_left u xv;rw [Nat.mul_add,Nat.mul_one] at this;exact this
  by_cases hA : A = 0
  ·have u0 : u = 0 := by
    rcases Nat.mul_eq_zero.1 (show g.natAbs * u = 0 by rw [← hu,hA];rfl) with q | q <;> omega
   subst u0;refine ⟨?_,fun q => absurd hA q⟩;have : 1 * y.natAbs ≤ v * y.natAbs := Nat.mul_le_mul_right _ hv0;omega
  ·have u1 : 1 ≤ u := Nat.pos_of_ne_zero (fun q => by rw [q] at hu;simp at hu;omega)
   have yu : y.natAbs ≤ u := by
    have : v * y.natAbs ≤ v * u := by rw [Nat.mul_comm v u];omega
    exact Nat.le_of_mul_le_mul_left this hv0
   have uA : u ≤ A.natAbs := by
    rw [hu];have := Nat.mul_le_mul_right u (show 1 ≤ g.natAbs by omega);omega
   refine ⟨by omega,fun _ _ => ?_⟩;rw [hu,Nat.mul_comm];exact Nat.mul_le_mul_left _ yu

end Go.Proofs.YtmnecbniappnaaaGreat
