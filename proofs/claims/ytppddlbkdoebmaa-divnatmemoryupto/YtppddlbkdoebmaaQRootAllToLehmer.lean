/-
 QRootAllToLehmer: RootAll, Lehmer, joined.
-/
import Derived.Test.YtppddlbkdoebmaaQRootAny
import Derived.Test.YtppddlbkdoebmaaQDivMod

set_option maxRecDepth 100000
set_option maxHeartbeats 6400000
set_option linter.unusedVariables false
set_option linter.unusedSimpArgs false
namespace Go.Proofs.Ytppddlbkdoebmaa
open Go.RowKit
def zdC (w : World) (r : Int) (e : Ending) (w' : World) : Prop := ∃ zs v,e = .returned (.tuple #[v,.int .i64 0]) ∧ Own w.heap.size w' v zs ∧ zFA zs ∧ val zs = r ∧ Below w.heap.size w w'
theorem nroot_one {a k : Nat} (h0 : a ≠ 0) (h : bitLen a ≤ k) : zlA 1 a k := by
 refine ⟨by rw [Nat.one_pow];omega,Nat.lt_of_lt_of_le (zmB h0).2 ?_⟩;exact Nat.pow_le_pow_right (by omega) h
theorem zGC {r s a k : Nat} (h : zlA r a k) (h' : zlA s a k) : r = s := Nat.le_antisymm (h'.le h.1) (h.le h'.1)
theorem own_last (w : World) (xs : List Int) (cs : Array Value) (hcs : cs = (ws xs).toArray) (hx : WF xs) (h : xs.length ≤ 35184372088832) (n : Nat) (hn : n = xs.length) : Own w.heap.size (w.alloc (.cells cs 26)) (.slice (some ⟨w.heap.size,0,none⟩) n n) xs := by
 subst hcs;subst hn;exact ⟨hx,.inr ⟨w.heap.size,[],Nat.le_refl _,by simpa using h,by simp,by simpa using Row.new w xs⟩⟩
theorem zrE {w : World} {va : Value} {xs : List Int} {k r : Nat} (ha : Sl w.heap.size w va xs) (h1 : 1 ≤ k) (hk : k < 9223372036854775808) (lx : xs.length ≤ 33554432) (hr : zlA r (vn xs) k) : Calls Try.prog 32 #[va,.int .i64 (k : Int)] w (zdC w (r : Int)) := by
 have HA := hid ha;have HR := hid hr;have HV := hid (zNA ha.1);have HBL := hid (ztA ha);have z1 : ¬ (k : Int) < 1 := by omega
 by_cases h0 : vn xs = 0
 ·have hb : bitLen (vn xs) = 0 := by rw [h0];rfl
  rw [hb] at HBL;have hr0 : r = 0 := by
   have := hr.1;rw [h0] at this;rcases Nat.eq_zero_or_pos r with q | q
   ·exact q
   ·have := Nat.pow_pos (n := k) q;omega
  clear ha hr;go_enter Try.func32,Try.ntmps32;go_wp2_with fail;refine HBL.out.mono ?_;rintro e w1 ⟨rfl,rfl⟩;clear HBL;go_wp2;go_ret2;exact ⟨[],_,rfl,⟨WF.nil,.inl ⟨rfl,rfl⟩⟩,canon_nil,by rw [hr0];rfl,Below.refl _ _⟩
 ·have hbl : bitLen (vn xs) ≤ 64 * xs.length := by
   unfold bitLen;rw [if_neg h0];have := (Nat.log2_lt (n := vn xs) (k := 64 * xs.length) h0).2 (zkE ha.1);omega
  have hb0 : 0 < bitLen (vn xs) := by unfold bitLen;rw [if_neg h0];omega
  have HN1 : Hid (bitLen (vn xs) ≤ k → zlA 1 (vn xs) k) := nroot_one h0;have HRA : Hid (2 ≤ k → k < 4294967296 → Calls Try.prog 62 #[va,.int .i64 (k : Int)] w (zUE w.heap.size w (r : Int))) := fun a b => root_any ha a b h0 (by omega) hr
  have HLE := hid (zHB ha);generalize bitLen (vn xs) = b at *;have z2 : ((b : Int) == 0) = false := by rw [beq_eq_false_iff_ne];omega
  clear ha hr
  by_cases hkb : b ≤ k
  ·have z3 : (b : Int) ≤ (k : Int) := by omega
   have e1 := zGC HR.out (HN1.out hkb);go_enter Try.func32,Try.ntmps32;go_wp2_with fail;refine HBL.out.mono ?_;rintro e w1 ⟨rfl,rfl⟩;clear HBL;go_wp2;go_ret2;exact ⟨[1],_,rfl,own_last _ [1] _ rfl canon_one.1 (by simp) 1 rfl,canon_one,by rw [e1];rfl,(Below.refl _ _).alloc (Nat.le_refl _) _⟩
  ·have z3 : ¬ (b : Int) ≤ (k : Int) := by omega
   by_cases hk1 : k = 1
   ·subst hk1
    have z4 : ((1 : Int) == 1) = true := rfl;have er : r = vn xs := by
     have h3 := HR.out.1;have h4 := HR.out.2;rw [Nat.pow_one] at h3 h4;omega
    go_enter Try.func32,Try.ntmps32;go_wp2_with fail;refine HBL.out.mono ?_;rintro e w1 ⟨rfl,rfl⟩;clear HBL;go_wp2_with fail;refine HLE.out.mono ?_;rintro e w2 ⟨v2,rfl,ho,hb2⟩;have HO := hid ho;have HB := hid hb2;clear ho hb2 HLE;go_wp2;go_ret2;exact ⟨lst xs,v2,rfl,HO.out,canon_lst HA.out.1,by rw [val_lst,HV.out,er],HB.out⟩
   ·have z4 : ((k : Int) == 1) = false := by rw [beq_eq_false_iff_ne];omega
    have HRR := hid (HRA.out (by omega) (by omega));go_enter Try.func32,Try.ntmps32;go_wp2_with fail;refine HBL.out.mono ?_;rintro e w1 ⟨rfl,rfl⟩;clear HBL;go_wp2_with fail;refine HRR.out.mono ?_;rintro e w2 ⟨zs,v,rfl,o1,c1,e1,b1⟩;have O1 := hid o1;have B1 := hid b1;clear HRR o1 b1 HRA;go_wp2;go_ret2;exact ⟨zs,v,rfl,O1.out,c1,e1,B1.out⟩
theorem rootT_bad (v : Value) (w : World) {i : Int} (hi : i < 1) (hl : -9223372036854775808 ≤ i) :
  Calls Try.prog 32 #[v,.int .i64 i] w fun e w' => e = .returned (.tuple #[.slice none 0 0,.int .i64 3]) ∧ w' = w := by
 go_enter Try.func32,Try.ntmps32;go_wp2;go_ret2;exact ⟨rfl,rfl⟩
def ig (u v : Int) : Nat := Nat.gcd u.toNat v.toNat
theorem zjD {u v q r : Int} (hu : 0 ≤ u) (hv : 0 < v) (hr0 : 0 ≤ r) (hr1 : r < v) (h : u - q * v = r) : ig v r = ig u v := by
 obtain ⟨U,rfl⟩ := Int.eq_ofNat_of_zero_le hu;obtain ⟨V,rfl⟩ := Int.eq_ofNat_of_zero_le (Int.le_of_lt hv);obtain ⟨R,rfl⟩ := Int.eq_ofNat_of_zero_le hr0;have hm : U % V = R := by
  have h1 : ((U % V : Nat) : Int) = (U : Int) % (V : Int) := by simp
  have h2 : (U : Int) % (V : Int) = (R : Int) := by
   have e : (U : Int) = (R : Int) + (V : Int) * q := by rw [Int.mul_comm];omega
   rw [e,Int.add_mul_emod_self_left,Int.emod_eq_of_lt hr0 hr1]
  omega
 unfold ig;simp only [Int.toNat_natCast];rw [← hm,Nat.gcd_comm U V,Nat.gcd_rec V U,Nat.gcd_comm]
def zMD (xh yh A B C D x y : Int) : Prop :=
 x = A * xh + B * yh ∧ y = C * xh + D * yh ∧ (0 ≤ x + A ∧ x + A ≤ 1152921504606846976) ∧ (0 ≤ x + B ∧ x + B ≤ 1152921504606846976) ∧ (0 ≤ y + C ∧ y + C ≤ 1152921504606846976) ∧ (0 ≤ y + D ∧ y + D ≤ 1152921504606846976) ∧
  ((0 ≤ A ∧ B ≤ 0 ∧ C ≤ 0 ∧ 0 ≤ D) ∨ (A ≤ 0 ∧ 0 ≤ B ∧ 0 ≤ C ∧ D ≤ 0))
theorem zMD.start {xh yh : Int} (h0 : 0 ≤ xh) (h1 : xh < 1152921504606846976) (k0 : 0 ≤ yh) (k1 : yh < 1152921504606846976) : zMD xh yh 1 0 0 1 xh yh :=
 ⟨by omega,by omega,by omega,by omega,by omega,by omega,.inl (by omega)⟩
theorem zMD.bounds {xh yh A B C D x y : Int} (h : zMD xh yh A B C D x y) : (-1152921504606846976 ≤ A ∧ A ≤ 1152921504606846976) ∧ (-1152921504606846976 ≤ B ∧ B ≤ 1152921504606846976) ∧ (-1152921504606846976 ≤ C ∧ C ≤ 1152921504606846976) ∧ (-1152921504606846976 ≤ D ∧ D ≤ 1152921504606846976) ∧ (0 ≤ x ∧ x ≤ 1152921504606846976) ∧ (0 ≤ y ∧ y ≤ 1152921504606846976) := by
 obtain ⟨_,_,h1,h2,h3,h4,h5⟩ := h;rcases h5 with h5 | h5 <;> exact ⟨by omega,by omega,by omega,by omega,by omega,by omega⟩
theorem zMD.step {xh yh A B C D x y q : Int} (h : zMD xh yh A B C D x y) (hc : 0 < y + C) (hd : 0 < y + D) (h1 : (x + A) / (y + C) = q) (h2 : (x + B) / (y + D) = q) :
  zMD xh yh C D (A - q * C) (B - q * D) y (x - q * y) ∧ 0 ≤ q ∧ (x - q * y) + (A - q * C) < y + C ∧ (x - q * y) + (B - q * D) < y + D := by
 obtain ⟨e1,e2,a1,a2,a3,a4,a5⟩ := h;have q0 : 0 ≤ q := by rw [← h1];exact Int.ediv_nonneg a1.1 (by omega)
 have m1 := Int.mul_ediv_add_emod (x + A) (y + C);have m2 := Int.mul_ediv_add_emod (x + B) (y + D);have n1 := Int.emod_nonneg (x + A) (show y + C ≠ 0 by omega);have n2 := Int.emod_lt_of_pos (x + A) hc;have n3 := Int.emod_nonneg (x + B) (show y + D ≠ 0 by omega);have n4 := Int.emod_lt_of_pos (x + B) hd;rw [h1,Int.add_mul] at m1;rw [h2,Int.add_mul] at m2;rw [Int.mul_comm q C,Int.mul_comm q D,Int.mul_comm q y];have c1 : 0 ≤ q * (-C) ∨ 0 ≤ q * C := by
  rcases a5 with a5 | a5
  ·exact .inl (Int.mul_nonneg q0 (by omega))
  ·exact .inr (Int.mul_nonneg q0 (by omega))
 refine ⟨⟨e2,?_,by omega,by omega,by omega,by omega,?_⟩,q0,by omega,by omega⟩
 ·rw [e1,e2]
  grind
 ·rcases a5 with a5 | a5
  ·right
   have k1 := Int.mul_nonneg q0 (show 0 ≤ -C by omega);have k2 := Int.mul_nonneg q0 a5.2.2.2;rw [Int.mul_neg,Int.mul_comm] at k1;rw [Int.mul_comm] at k2;omega
  ·left
   have k1 := Int.mul_nonneg q0 (show 0 ≤ -D by omega);have k2 := Int.mul_nonneg q0 a5.2.2.1;rw [Int.mul_neg,Int.mul_comm] at k1;rw [Int.mul_comm] at k2;omega
theorem zRD {P al be S T X : Int} (hP : 0 < P) (a0 : 0 ≤ al) (a1 : al < P) (b0 : 0 ≤ be) (b1 : be < P) (hS : 0 ≤ S) (hT : T ≤ 0) : P * (X + T) ≤ P * X + (S * al + T * be) ∧ P * X + (S * al + T * be) ≤ P * (X + S) := by
 have k1 := Int.mul_nonneg hS a0;have k2 := Int.mul_le_mul_of_nonneg_left (Int.le_of_lt a1) hS;have k3 := Int.mul_nonneg (show 0 ≤ -T by omega) b0;have k4 := Int.mul_le_mul_of_nonneg_left (Int.le_of_lt b1) (show 0 ≤ -T by omega);rw [Int.neg_mul] at k3 k4;rw [Int.neg_mul] at k4;rw [Int.mul_add,Int.mul_add,Int.mul_comm P T,Int.mul_comm P S];omega
def zCE (xh yh A B C D : Int) : Prop := ∀ P al be : Int,0 < P → 0 ≤ al → al < P → 0 ≤ be → be < P →
 0 ≤ A * (xh * P + al) + B * (yh * P + be) ∧ 0 ≤ C * (xh * P + al) + D * (yh * P + be) ∧ ig (A * (xh * P + al) + B * (yh * P + be)) (C * (xh * P + al) + D * (yh * P + be)) = ig (xh * P + al) (yh * P + be) ∧
  ((A = 1 ∧ B = 0 ∧ C = 0 ∧ D = 1) ∨ (C ≠ 0 ∧ C * (xh * P + al) + D * (yh * P + be) < A * (xh * P + al) + B * (yh * P + be) ∧ C * (xh * P + al) + D * (yh * P + be) < yh * P + be ∧ A * (xh * P + al) + B * (yh * P + be) ≤ yh * P + be))
theorem zCE.start {xh yh : Int} (h0 : 0 ≤ xh) (k0 : 0 ≤ yh) : zCE xh yh 1 0 0 1 := fun P al be hP a0 a1 b0 b1 => by
 have m1 := Int.mul_nonneg h0 (Int.le_of_lt hP);have m2 := Int.mul_nonneg k0 (Int.le_of_lt hP);have e1 : 1 * (xh * P + al) + 0 * (yh * P + be) = xh * P + al := by omega
 have e2 : 0 * (xh * P + al) + 1 * (yh * P + be) = yh * P + be := by omega
 rw [e1,e2];exact ⟨by omega,by omega,rfl,.inl ⟨rfl,rfl,rfl,rfl⟩⟩
theorem zoF (A B xh yh P al be x : Int) (h : x = A * xh + B * yh) : A * (xh * P + al) + B * (yh * P + be) = P * x + (A * al + B * be) := by
 subst h
 grind
theorem leh_form' (A B xh yh P al be x : Int) (h : x = A * xh + B * yh) : A * (xh * P + al) + B * (yh * P + be) = P * x + (B * be + A * al) := by
 subst h
 grind
theorem znF {xh yh A B C D x y q P al be : Int} (h : zMD xh yh A B C D x y) (hc : 0 < y + C) (hd : 0 < y + D) (h1 : (x + A) / (y + C) = q) (h2 : (x + B) / (y + D) = q) (hP : 0 < P) (a0 : 0 ≤ al) (a1 : al < P) (b0 : 0 ≤ be) (b1 : be < P) :
  0 < C * (xh * P + al) + D * (yh * P + be) ∧ 0 ≤ (A - q * C) * (xh * P + al) + (B - q * D) * (yh * P + be) ∧ (A - q * C) * (xh * P + al) + (B - q * D) * (yh * P + be) < C * (xh * P + al) + D * (yh * P + be) := by
 obtain ⟨hn,q0,l1,l2⟩ := h.step hc hd h1 h2;obtain ⟨_,f2,_,_,n3,n4,n5⟩ := hn;obtain ⟨_,e2,_,_,_,_,a5⟩ := h;rcases a5 with a5 | a5
 ·-- C ≤ 0 ≤ D
  have v := zRD (X := y) hP b0 b1 a0 a1 a5.2.2.2 a5.2.2.1;rw [leh_form' C D xh yh P al be y e2];have hs : 0 ≤ A - q * C ∧ B - q * D ≤ 0 := by
   have k1 := Int.mul_nonneg q0 (show 0 ≤ -C by omega);have k2 := Int.mul_nonneg q0 a5.2.2.2;rw [Int.mul_neg] at k1;omega
  have r := zRD (X := x - q * y) hP a0 a1 b0 b1 hs.1 hs.2;rw [zoF (A - q * C) (B - q * D) xh yh P al be (x - q * y) f2];have z0 := Int.mul_nonneg (Int.le_of_lt hP) n4.1;have z1 := Int.mul_le_mul_of_nonneg_left (show (x - q * y) + (A - q * C) ≤ y + C - 1 by omega) (Int.le_of_lt hP);have z2 := Int.mul_pos hP hc;rw [Int.mul_sub,Int.mul_one] at z1;omega
 ·have v := zRD (X := y) hP a0 a1 b0 b1 a5.2.2.1 a5.2.2.2
  rw [zoF C D xh yh P al be y e2];have hs : A - q * C ≤ 0 ∧ 0 ≤ B - q * D := by
   have k1 := Int.mul_nonneg q0 (show 0 ≤ -D by omega);have k2 := Int.mul_nonneg q0 a5.2.2.1;rw [Int.mul_neg] at k1;omega
  have r := zRD (X := x - q * y) hP b0 b1 a0 a1 hs.2 hs.1;rw [leh_form' (A - q * C) (B - q * D) xh yh P al be (x - q * y) f2];have z0 := Int.mul_nonneg (Int.le_of_lt hP) n3.1;have z1 := Int.mul_le_mul_of_nonneg_left (show (x - q * y) + (B - q * D) ≤ y + D - 1 by omega) (Int.le_of_lt hP);have z2 := Int.mul_pos hP hd;rw [Int.mul_sub,Int.mul_one] at z1;omega
theorem zKG (A B C D q a b : Int) : (A - q * C) * a + (B - q * D) * b = (A * a + B * b) - q * (C * a + D * b) := by grind
theorem zCE.step {xh yh A B C D x y q : Int} (h : zMD xh yh A B C D x y) (he : zCE xh yh A B C D) (hc : 0 < y + C) (hd : 0 < y + D) (h1 : (x + A) / (y + C) = q) (h2 : (x + B) / (y + D) = q) : zCE xh yh C D (A - q * C) (B - q * D) := fun P al be hP a0 a1 b0 b1 => by
 obtain ⟨v0,r0,r1⟩ := znF h hc hd h1 h2 hP a0 a1 b0 b1;obtain ⟨u0,_,g,alt⟩ := he P al be hP a0 a1 b0 b1;have hst := zjD (q := q) u0 v0 r0 r1 (zKG A B C D q _ _).symm;refine ⟨Int.le_of_lt v0,r0,hst.trans g,.inr ?_⟩;have hC : A - q * C ≠ 0 := by
  rcases alt with ⟨rfl,rfl,rfl,rfl⟩ | ⟨hCn,_,_,_⟩
  ·omega
  ·obtain ⟨w0,s0,s1⟩ := znF h hc hd h1 h2 (P := 1) (al := 0) (be := 0) (by omega) (by omega) (by omega) (by omega) (by omega)
   obtain ⟨_,_,_,alt1⟩ := he 1 0 0 (by omega) (by omega) (by omega) (by omega) (by omega);rw [zKG] at s1;rcases alt1 with ⟨_,_,hc0,_⟩ | ⟨_,hlt,_,_⟩
   ·exact absurd hc0 hCn
   ·obtain ⟨_,q0,_,_⟩ := h.step hc hd h1 h2
    have hq1 : 1 ≤ q := by
     rcases Int.lt_or_eq_of_le q0 with t | t
     ·omega
     ·rw [← t,Int.zero_mul] at s1;omega
    obtain ⟨_,_,_,_,_,_,a5⟩ := h;rcases a5 with a5 | a5
    ·have := Int.mul_le_mul_of_nonneg_right hq1 (show 0 ≤ -C by omega)
     rw [Int.one_mul,Int.mul_neg] at this;omega
    ·have := Int.mul_le_mul_of_nonneg_right hq1 (show 0 ≤ C by omega)
     rw [Int.one_mul] at this;omega
 refine ⟨hC,r1,?_,?_⟩
 ·rcases alt with ⟨rfl,rfl,rfl,rfl⟩ | ⟨_,_,hb,_⟩
  ·omega
  ·omega
 ·rcases alt with ⟨rfl,rfl,rfl,rfl⟩ | ⟨_,_,hb,_⟩
  ·omega
  ·omega
end Go.Proofs.Ytppddlbkdoebmaa
