import Derived.Test.YtffkmeocmjohmaaGreatQDivMod
import Derived.Test.YtffkmeocmjohmaaGreatQTailToMWord
import Derived.Test.YtffkmeocmjohmaaGreatQProdToByWord
import Derived.Deep.RegionHeld3
import Derived.Deep.LoopGhost
set_option maxRecDepth 100000
set_option maxHeartbeats 6400000
set_option linter.unusedVariables false
set_option linter.unusedSimpArgs false
namespace Go.Proofs.YtffkmeocmjohmaaGreat
open Go.RowKit
def ig (u v : Int) : Nat := Nat.gcd u.toNat v.toNat
theorem zSE {u v q r : Int} (hu : 0 ≤ u) (hv : 0 < v) (hr0 : 0 ≤ r) (hr1 : r < v) (h : u - q * v = r) : ig v r = ig u v := by
 obtain ⟨U,rfl⟩ := Int.eq_ofNat_of_zero_le hu;obtain ⟨V,rfl⟩ := Int.eq_ofNat_of_zero_le (Int.le_of_lt hv);obtain ⟨R,rfl⟩ := Int.eq_ofNat_of_zero_le hr0;have hm : U % V = R := by
  have h1 : ((U % V : Nat) : Int) = (U : Int) % (V : Int) := by simp
  have h2 : (U : Int) % (V : Int) = (R : Int) := by
   have e : (U : Int) = (R : Int) + (V : Int) * q := by rw [Int.mul_comm];omega
   rw [e,Int.add_mul_emod_self_left,Int.emod_eq_of_lt hr0 hr1]
  omega
 unfold ig;simp only [Int.toNat_natCast];rw [← hm,Nat.gcd_comm U V,Nat.gcd_rec V U,Nat.gcd_comm]
def zID (xh yh A B C D x y : Int) : Prop :=
 x = A * xh + B * yh ∧ y = C * xh + D * yh ∧ (0 ≤ x + A ∧ x + A ≤ 1152921504606846976) ∧ (0 ≤ x + B ∧ x + B ≤ 1152921504606846976) ∧ (0 ≤ y + C ∧ y + C ≤ 1152921504606846976) ∧ (0 ≤ y + D ∧ y + D ≤ 1152921504606846976) ∧
  ((0 ≤ A ∧ B ≤ 0 ∧ C ≤ 0 ∧ 0 ≤ D) ∨ (A ≤ 0 ∧ 0 ≤ B ∧ 0 ≤ C ∧ D ≤ 0))
theorem zID.start {xh yh : Int} (h0 : 0 ≤ xh) (h1 : xh < 1152921504606846976) (k0 : 0 ≤ yh) (k1 : yh < 1152921504606846976) : zID xh yh 1 0 0 1 xh yh :=
 ⟨by omega,by omega,by omega,by omega,by omega,by omega,.inl (by omega)⟩
theorem zID.bounds {xh yh A B C D x y : Int} (h : zID xh yh A B C D x y) : (-1152921504606846976 ≤ A ∧ A ≤ 1152921504606846976) ∧ (-1152921504606846976 ≤ B ∧ B ≤ 1152921504606846976) ∧ (-1152921504606846976 ≤ C ∧ C ≤ 1152921504606846976) ∧ (-1152921504606846976 ≤ D ∧ D ≤ 1152921504606846976) ∧ (0 ≤ x ∧ x ≤ 1152921504606846976) ∧ (0 ≤ y ∧ y ≤ 1152921504606846976) := by
 obtain ⟨_,_,h1,h2,h3,h4,h5⟩ := h;rcases h5 with h5 | h5 <;> exact ⟨by omega,by omega,by omega,by omega,by omega,by omega⟩
theorem zID.step {xh yh A B C D x y q : Int} (h : zID xh yh A B C D x y) (hc : 0 < y + C) (hd : 0 < y + D) (h1 : (x + A) / (y + C) = q) (h2 : (x + B) / (y + D) = q) :
  zID xh yh C D (A - q * C) (B - q * D) y (x - q * y) ∧ 0 ≤ q ∧ (x - q * y) + (A - q * C) < y + C ∧ (x - q * y) + (B - q * D) < y + D := by
 obtain ⟨e1,e2,a1,a2,a3,a4,a5⟩ := h;have q0 : 0 ≤ q := by rw [← h1];exact Int.ediv_nonneg a1.1 (by omega)
 have m1 := Int.mul_ediv_add_emod (x + A) (y + C);have m2 := Int.mul_ediv_add_emod (x + B) (y + D);have n1 := Int.emod_nonneg (x + A) (show y + C ≠ 0 by omega);have n2 := Int.emod_lt_of_pos (x + A) hc;have n3 := Int.emod_nonneg (x + B) (show y + D ≠ 0 by omega);have n4 := Int.emod_lt_of_pos (x + B) hd;rw [h1,Int.add_mul] at m1;rw [h2,Int.add_mul] at m2;rw [Int.mul_comm q C,Int.mul_comm q D,Int.mul_comm q y];have c1 : 0 ≤ q * (-C) ∨ 0 ≤ q * C := by
  rcases a5 with a5 | a5
  ·exact .inl (Int.mul_nonneg q0 (by omega))
  ·exact .inr (Int.mul_nonneg q0 (by omega))
 refine ⟨⟨e2,?_,by omega,by omega,by omega,by omega,?_⟩,q0,by omega,by omega⟩
 ·rw [e1,e2]
  grind
 ·rcases a5 with a5 | a5
  ·right
   have k1 := Int.mul_nonneg q0 (show 0 ≤ -C by omega);have k2 := Int.mul_nonneg q0 a5.2.2.2;rw [Int.mul_neg,Int.mul_comm] at k1;rw [Int.mul_comm] at k2;omega
  ·left
   have k1 := Int.mul_nonneg q0 (show 0 ≤ -D by omega);have k2 := Int.mul_nonneg q0 a5.2.2.1;rw [Int.mul_neg,Int.mul_comm] at k1;rw [Int.mul_comm] at k2;omega
theorem zLD {P al be S T X : Int} (hP : 0 < P) (a0 : 0 ≤ al) (a1 : al < P) (b0 : 0 ≤ be) (b1 : be < P) (hS : 0 ≤ S) (hT : T ≤ 0) : P * (X + T) ≤ P * X + (S * al + T * be) ∧ P * X + (S * al + T * be) ≤ P * (X + S) := by
 have k1 := Int.mul_nonneg hS a0;have k2 := Int.mul_le_mul_of_nonneg_left (Int.le_of_lt a1) hS;have k3 := Int.mul_nonneg (show 0 ≤ -T by omega) b0;have k4 := Int.mul_le_mul_of_nonneg_left (Int.le_of_lt b1) (show 0 ≤ -T by omega);rw [Int.neg_mul] at k3 k4;rw [Int.neg_mul] at k4;rw [Int.mul_add,Int.mul_add,Int.mul_comm P T,Int.mul_comm P S];omega
def zsD (xh yh A B C D : Int) : Prop := ∀ P al be : Int,0 < P → 0 ≤ al → al < P → 0 ≤ be → be < P →
 0 ≤ A * (xh * P + al) + B * (yh * P + be) ∧ 0 ≤ C * (xh * P + al) + D * (yh * P + be) ∧ ig (A * (xh * P + al) + B * (yh * P + be)) (C * (xh * P + al) + D * (yh * P + be)) = ig (xh * P + al) (yh * P + be) ∧
  ((A = 1 ∧ B = 0 ∧ C = 0 ∧ D = 1) ∨ (C ≠ 0 ∧ C * (xh * P + al) + D * (yh * P + be) < A * (xh * P + al) + B * (yh * P + be) ∧ C * (xh * P + al) + D * (yh * P + be) < yh * P + be ∧ A * (xh * P + al) + B * (yh * P + be) ≤ yh * P + be))
theorem zsD.start {xh yh : Int} (h0 : 0 ≤ xh) (k0 : 0 ≤ yh) : zsD xh yh 1 0 0 1 := fun P al be hP a0 a1 b0 b1 => by
 have m1 := Int.mul_nonneg h0 (Int.le_of_lt hP);have m2 := Int.mul_nonneg k0 (Int.le_of_lt hP);have e1 : 1 * (xh * P + al) + 0 * (yh * P + be) = xh * P + al := by omega
 have e2 : 0 * (xh * P + al) + 1 * (yh * P + be) = yh * P + be := by omega
 rw [e1,e2];exact ⟨by omega,by omega,rfl,.inl ⟨rfl,rfl,rfl,rfl⟩⟩
theorem zNG (A B xh yh P al be x : Int) (h : x = A * xh + B * yh) : A * (xh * P + al) + B * (yh * P + be) = P * x + (A * al + B * be) := by
 subst h
 grind
theorem leh_form' (A B xh yh P al be x : Int) (h : x = A * xh + B * yh) : A * (xh * P + al) + B * (yh * P + be) = P * x + (B * be + A * al) := by
 subst h
 grind
theorem zMG {xh yh A B C D x y q P al be : Int} (h : zID xh yh A B C D x y) (hc : 0 < y + C) (hd : 0 < y + D) (h1 : (x + A) / (y + C) = q) (h2 : (x + B) / (y + D) = q) (hP : 0 < P) (a0 : 0 ≤ al) (a1 : al < P) (b0 : 0 ≤ be) (b1 : be < P) :
  0 < C * (xh * P + al) + D * (yh * P + be) ∧ 0 ≤ (A - q * C) * (xh * P + al) + (B - q * D) * (yh * P + be) ∧ (A - q * C) * (xh * P + al) + (B - q * D) * (yh * P + be) < C * (xh * P + al) + D * (yh * P + be) := by
 obtain ⟨hn,q0,l1,l2⟩ := h.step hc hd h1 h2;obtain ⟨_,f2,_,_,n3,n4,n5⟩ := hn;obtain ⟨_,e2,_,_,_,_,a5⟩ := h;rcases a5 with a5 | a5
 ·-- C ≤ 0 ≤ D
  have v := zLD (X := y) hP b0 b1 a0 a1 a5.2.2.2 a5.2.2.1;rw [leh_form' C D xh yh P al be y e2];have hs : 0 ≤ A - q * C ∧ B - q * D ≤ 0 := by
   have k1 := Int.mul_nonneg q0 (show 0 ≤ -C by omega);have k2 := Int.mul_nonneg q0 a5.2.2.2;rw [Int.mul_neg] at k1;omega
  have r := zLD (X := x - q * y) hP a0 a1 b0 b1 hs.1 hs.2;rw [zNG (A - q * C) (B - q * D) xh yh P al be (x - q * y) f2];have z0 := Int.mul_nonneg (Int.le_of_lt hP) n4.1;have z1 := Int.mul_le_mul_of_nonneg_left (show (x - q * y) + (A - q * C) ≤ y + C - 1 by omega) (Int.le_of_lt hP);have z2 := Int.mul_pos hP hc;rw [Int.mul_sub,Int.mul_one] at z1;omega
 ·have v := zLD (X := y) hP a0 a1 b0 b1 a5.2.2.1 a5.2.2.2
  rw [zNG C D xh yh P al be y e2];have hs : A - q * C ≤ 0 ∧ 0 ≤ B - q * D := by
   have k1 := Int.mul_nonneg q0 (show 0 ≤ -D by omega);have k2 := Int.mul_nonneg q0 a5.2.2.1;rw [Int.mul_neg] at k1;omega
  have r := zLD (X := x - q * y) hP b0 b1 a0 a1 hs.2 hs.1;rw [leh_form' (A - q * C) (B - q * D) xh yh P al be (x - q * y) f2];have z0 := Int.mul_nonneg (Int.le_of_lt hP) n3.1;have z1 := Int.mul_le_mul_of_nonneg_left (show (x - q * y) + (B - q * D) ≤ y + D - 1 by omega) (Int.le_of_lt hP);have z2 := Int.mul_pos hP hd;rw [Int.mul_sub,Int.mul_one] at z1;omega
theorem zKH (A B C D q a b : Int) : (A - q * C) * a + (B - q * D) * b = (A * a + B * b) - q * (C * a + D * b) := by grind
theorem zsD.step {xh yh A B C D x y q : Int} (h : zID xh yh A B C D x y) (he : zsD xh yh A B C D) (hc : 0 < y + C) (hd : 0 < y + D) (h1 : (x + A) / (y + C) = q) (h2 : (x + B) / (y + D) = q) : zsD xh yh C D (A - q * C) (B - q * D) := fun P al be hP a0 a1 b0 b1 => by
 obtain ⟨v0,r0,r1⟩ := zMG h hc hd h1 h2 hP a0 a1 b0 b1;obtain ⟨u0,_,g,alt⟩ := he P al be hP a0 a1 b0 b1;have hst := zSE (q := q) u0 v0 r0 r1 (zKH A B C D q _ _).symm;refine ⟨Int.le_of_lt v0,r0,hst.trans g,.inr ?_⟩;have hC : A - q * C ≠ 0 := by
  rcases alt with ⟨rfl,rfl,rfl,rfl⟩ | ⟨hCn,_,_,_⟩
  ·omega
  ·obtain ⟨w0,s0,s1⟩ := zMG h hc hd h1 h2 (P := 1) (al := 0) (be := 0) (by omega) (by omega) (by omega) (by omega) (by omega)
   obtain ⟨_,_,_,alt1⟩ := he 1 0 0 (by omega) (by omega) (by omega) (by omega) (by omega);rw [zKH] at s1;rcases alt1 with ⟨_,_,hc0,_⟩ | ⟨_,hlt,_,_⟩
   ·exact absurd hc0 hCn
   ·obtain ⟨_,q0,_,_⟩ := h.step hc hd h1 h2
    have hq1 : 1 ≤ q := by
     rcases Int.lt_or_eq_of_le q0 with t | t
     ·omega
     ·rw [← t,Int.zero_mul] at s1;omega
    obtain ⟨_,_,_,_,_,_,a5⟩ := h;rcases a5 with a5 | a5
    ·have := Int.mul_le_mul_of_nonneg_right hq1 (show 0 ≤ -C by omega)
     rw [Int.one_mul,Int.mul_neg] at this;omega
    ·have := Int.mul_le_mul_of_nonneg_right hq1 (show 0 ≤ C by omega)
     rw [Int.one_mul] at this;omega
 refine ⟨hC,r1,?_,?_⟩
 ·rcases alt with ⟨rfl,rfl,rfl,rfl⟩ | ⟨_,_,hb,_⟩
  ·omega
  ·omega
 ·rcases alt with ⟨rfl,rfl,rfl,rfl⟩ | ⟨_,_,hb,_⟩
  ·omega
  ·omega
def Pair (w : World) (b : Nat) (p q : Int) : Prop := w.heap[b]? = some (.cells #[.int .i64 p,.int .i64 q] 164 (0,0))
theorem Pair.c0 {w : World} {b : Nat} {p q : Int} (h : Pair w b p q) : w.cell? ⟨b,0,none⟩ = some (.int .i64 p) := by unfold Pair at h;simp [World.cell?,h]
theorem Pair.c1 {w : World} {b : Nat} {p q : Int} (h : Pair w b p q) : w.cell? ⟨b,1,none⟩ = some (.int .i64 q) := by unfold Pair at h;simp [World.cell?,h]
theorem Pair.fz {w : World} {b : Nat} {p q : Int} (h : Pair w b p q) (i : Nat) : w.frozen? ⟨b,i,none⟩ = false := by unfold Pair at h;simp [World.frozen?,h]
theorem Pair.drew {w : World} {b : Nat} {p q : Int} (h : Pair w b p q) (n : Nat) : Pair (w.drewN n) b p q := h
theorem Pair.set {w : World} {b : Nat} {p q : Int} (h : Pair w b p q) (p' q' : Int) : Pair ((w.setCell ⟨b,0,none⟩ (.int .i64 p')).setCell ⟨b,1,none⟩ (.int .i64 q')) b p' q' := by
 unfold Pair at h ⊢;simp [World.setCell,Array.getElem?_modify,h]
theorem Pair.other {w : World} {b c i : Nat} {p q : Int} (h : Pair w b p q) (hc : b ≠ c) (v : Value) : Pair (w.setCell ⟨c,i,none⟩ v) b p q := by
 have o := (Only.refl c w).set i v;exact (o.2 b hc).trans h
def Shared (xh yh : Int) (w : World) (e : Ending) (w' : World) : Prop :=
 ∃ A B C D : Int,e = .returned (.tuple #[.agg #[.int .i64 A,.int .i64 B],.agg #[.int .i64 C,.int .i64 D]]) ∧ (∃ x y,zID xh yh A B C D x y) ∧ zsD xh yh A B C D ∧ Below w.heap.size w w'
theorem zLC {W : World} {b c : Nat} {A B C D : Int} (h : Pair W b A B) (k : Pair W c C D) (tmps : Array Value) (ht : tmps[4]? = some (.pointer (some ⟨b,0,none⟩))) (ht' : tmps[5]? = some (.pointer (some ⟨c,0,none⟩))) :
  (results Tryz.f134 tmps).run Tryz.prog W = .ok (.tuple #[.agg #[.int .i64 A,.int .i64 B],.agg #[.int .i64 C,.int .i64 D]]) W := by
 simp [results,Tryz.results134,go_sem,ht,ht',h.c0,h.c1,k.c0,k.c1]
theorem shares_any {w : World} {xh yh : Int} (h0 : 0 ≤ xh) (h1 : xh < 1152921504606846976) (k0 : 0 ≤ yh) (k1 : yh < 1152921504606846976) :
  Calls Tryz.prog 134 #[.int .i64 xh,.int .i64 yh] w (Shared xh yh w) := by
 have HL0 := hid (zID.start h0 h1 k0 k1);have HE0 := hid (zsD.start h0 k0);go_enter Tryz.func134,Tryz.ntmps134;go_wp2_with fail;have hbl : Below w.heap.size w ((w.alloc (.cells #[.int .i64 1,.int .i64 0] 164)).alloc (.cells #[.int .i64 0,.int .i64 1] 164)) := ((Below.refl _ _).alloc (Nat.le_refl _) _).alloc (by simp) _;have hp0 : Pair ((w.alloc (.cells #[.int .i64 1,.int .i64 0] 164)).alloc (.cells #[.int .i64 0,.int .i64 1] 164)) w.heap.size 1 0 := by
  unfold Pair;rw [Below.heap_alloc _ _ _ (by simp)];exact heap_alloc_new w _
 have hp1 : Pair ((w.alloc (.cells #[.int .i64 1,.int .i64 0] 164)).alloc (.cells #[.int .i64 0,.int .i64 1] 164)) (w.heap.size + 1) 0 1 := by
  unfold Pair;have := heap_alloc_new (w.alloc (.cells #[.int .i64 1,.int .i64 0] 164)) (.cells #[.int .i64 0,.int .i64 1] 164)
  simpa using this
 have HBL := hid hbl;have HP0 := hid hp0;have HP1 := hid hp1;clear hbl hp0 hp1
 go_loopg [0,1] yh.toNat (fun g s0 s1 wx => ∃ A B C D x y : Int,s0 = .int .i64 x ∧ s1 = .int .i64 y ∧ (g : Int) = y + C ∧ Hid (zID xh yh A B C D x y) ∧ Hid (zsD xh yh A B C D) ∧ Hid (Pair wx w.heap.size A B) ∧ Hid (Pair wx (w.heap.size + 1) C D) ∧ Hid (Below w.heap.size w wx))
 case atStart => exact ⟨1,0,0,1,xh,yh,rfl,rfl,by omega,HL0,HE0,HP0,HP1,HBL⟩
 case round =>
  clear HL0 HE0 HBL HP0 HP1;obtain ⟨A,B,C,D,x,y,rfl,rfl,hg,HL,HE,PA,PB,BB⟩ := hrel;obtain ⟨⟨bA0,bA1⟩,⟨bB0,bB1⟩,⟨bC0,bC1⟩,⟨bD0,bD1⟩,⟨bx0,bx1⟩,⟨by0,by1⟩⟩ := HL.out.bounds;have cA := PA.out.c0;have cB := PA.out.c1;have cC := PB.out.c0;have cD := PB.out.c1;have fA0 := PA.out.fz 0;have fA1 := PA.out.fz 1;have fC0 := PB.out.fz 0;have fC1 := PB.out.fz 1;obtain ⟨-,-,⟨sA0,sA1⟩,⟨sB0,sB1⟩,⟨sC0,sC1⟩,⟨sD0,sD1⟩,-⟩ := HL.out
  by_cases hC : y + C = 0
  ·have z1 : (y + C != 0) = false := by simp [hC]
   clear hg;go_wp2_with fail;go_region;go_wp2;have PA2 := PA.out.set A B;have PB2 := (((PB.out.other (c := w.heap.size) (by omega) (.int .i64 A) (i := 0)).other (c := w.heap.size) (by omega) (.int .i64 B) (i := 1))).set C D;have PA3 := (PA2.other (c := w.heap.size + 1) (by omega) (.int .i64 C) (i := 0)).other (c := w.heap.size + 1) (by omega) (.int .i64 D) (i := 1);have BB2 := (((BB.out.setCell (p := ⟨w.heap.size,0,none⟩) (Nat.le_refl _) (.int .i64 A)).setCell (p := ⟨w.heap.size,1,none⟩) (Nat.le_refl _) (.int .i64 B)).setCell (p := ⟨w.heap.size + 1,0,none⟩) (Nat.le_succ _) (.int .i64 C)).setCell (p := ⟨w.heap.size + 1,1,none⟩) (Nat.le_succ _) (.int .i64 D);exact bodyPost_ret (zLC (PA3.drew 1) (PB2.drew 1) _ (by rfl) (by rfl)) rfl ⟨A,B,C,D,rfl,⟨x,y,HL.out⟩,HE.out,BB2.drew⟩
  ·have z1 : (y + C != 0) = true := by simp [hC]
   by_cases hD : y + D = 0
   ·have z2 : (y + D != 0) = false := by simp [hD]
    clear hg;go_wp2_with fail;go_region;go_wp2;have PA2 := PA.out.set A B;have PB2 := (((PB.out.other (c := w.heap.size) (by omega) (.int .i64 A) (i := 0)).other (c := w.heap.size) (by omega) (.int .i64 B) (i := 1))).set C D;have PA3 := (PA2.other (c := w.heap.size + 1) (by omega) (.int .i64 C) (i := 0)).other (c := w.heap.size + 1) (by omega) (.int .i64 D) (i := 1);have BB2 := (((BB.out.setCell (p := ⟨w.heap.size,0,none⟩) (Nat.le_refl _) (.int .i64 A)).setCell (p := ⟨w.heap.size,1,none⟩) (Nat.le_refl _) (.int .i64 B)).setCell (p := ⟨w.heap.size + 1,0,none⟩) (Nat.le_succ _) (.int .i64 C)).setCell (p := ⟨w.heap.size + 1,1,none⟩) (Nat.le_succ _) (.int .i64 D);exact bodyPost_ret (zLC (PA3.drew 1) (PB2.drew 1) _ (by rfl) (by rfl)) rfl ⟨A,B,C,D,rfl,⟨x,y,HL.out⟩,HE.out,BB2.drew⟩
   ·have z2 : (y + D != 0) = true := by simp [hD]
    obtain ⟨q,hq⟩ : ∃ q,(x + A) / (y + C) = q := ⟨_,rfl⟩
    obtain ⟨q',hq'⟩ : ∃ q',(x + B) / (y + D) = q' := ⟨_,rfl⟩
    have tq : (x + A).tdiv (y + C) = q := by rw [Int.tdiv_eq_ediv_of_nonneg sA0];exact hq
    have tq' : (x + B).tdiv (y + D) = q' := by rw [Int.tdiv_eq_ediv_of_nonneg sB0];exact hq'
    have q0 : 0 ≤ q := by rw [← hq];exact Int.ediv_nonneg sA0 sC0
    have q1 : q ≤ 1152921504606846976 := by rw [← hq];exact Int.le_trans (Int.ediv_le_self _ sA0) sA1
    have q0' : 0 ≤ q' := by rw [← hq'];exact Int.ediv_nonneg sB0 sD0
    have q1' : q' ≤ 1152921504606846976 := by rw [← hq'];exact Int.le_trans (Int.ediv_le_self _ sB0) sB1
    by_cases hqq : q = q'
    ·subst hqq
     have z3 : (q != q) = false := by simp
     obtain ⟨hn,_,l1,l2⟩ := HL.out.step (by omega) (by omega) hq hq';have HN := hid hn;have HE2 := hid (zsD.step HL.out HE.out (by omega) (by omega) hq hq');obtain ⟨-,-,⟨mC0,mC1⟩,⟨mD0,mD1⟩,-,⟨ny0,ny1⟩⟩ := hn.bounds;obtain ⟨p1,hp1⟩ : ∃ p1,q * y = p1 := ⟨_,rfl⟩
     obtain ⟨p2,hp2⟩ : ∃ p2,q * C = p2 := ⟨_,rfl⟩
     obtain ⟨p3,hp3⟩ : ∃ p3,q * D = p3 := ⟨_,rfl⟩
     rw [hp1] at ny0 ny1 l1 l2 HN;rw [hp2] at mC0 mC1 l1 HN HE2;rw [hp3] at mD0 mD1 l2 HN HE2;clear hn;go_wp2_with fail;go_region;go_wp2_with fail;have PA2 := hid (PA.out.set C D);have PB2 := hid ((((PB.out.other (c := w.heap.size) (by omega) (.int .i64 C) (i := 0)).other (c := w.heap.size) (by omega) (.int .i64 D) (i := 1))).set (A - p2) (B - p3));have PA3 := hid ((PA2.out.other (c := w.heap.size + 1) (by omega) (.int .i64 (A - p2)) (i := 0)).other (c := w.heap.size + 1) (by omega) (.int .i64 (B - p3)) (i := 1));have BB2 := hid ((((BB.out.setCell (p := ⟨w.heap.size,0,none⟩) (Nat.le_refl _) (.int .i64 C)).setCell (p := ⟨w.heap.size,1,none⟩) (Nat.le_refl _) (.int .i64 D)).setCell (p := ⟨w.heap.size + 1,0,none⟩) (Nat.le_succ _) (.int .i64 (A - p2))).setCell (p := ⟨w.heap.size + 1,1,none⟩) (Nat.le_succ _) (.int .i64 (B - p3)));have hg2 : 0 ≤ x - p1 + (A - p2) := HN.out.2.2.2.2.1.1;go_roundg (x - p1 + (A - p2)).toNat
     case rel => exact ⟨C,D,A - p2,B - p3,y,x - p1,rfl,rfl,Int.toNat_of_nonneg hg2,HN,HE2,PA3.out.drew 1,PB2.out.drew 1,BB2.out.drew⟩
     case measure => omega
    ·have z3 : (q != q') = true := by simp [hqq]
     clear hg;go_wp2_with fail;go_region;go_wp2;have PA2 := PA.out.set A B;have PB2 := (((PB.out.other (c := w.heap.size) (by omega) (.int .i64 A) (i := 0)).other (c := w.heap.size) (by omega) (.int .i64 B) (i := 1))).set C D;have PA3 := (PA2.other (c := w.heap.size + 1) (by omega) (.int .i64 C) (i := 0)).other (c := w.heap.size + 1) (by omega) (.int .i64 D) (i := 1);have BB2 := (((BB.out.setCell (p := ⟨w.heap.size,0,none⟩) (Nat.le_refl _) (.int .i64 A)).setCell (p := ⟨w.heap.size,1,none⟩) (Nat.le_refl _) (.int .i64 B)).setCell (p := ⟨w.heap.size + 1,0,none⟩) (Nat.le_succ _) (.int .i64 C)).setCell (p := ⟨w.heap.size + 1,1,none⟩) (Nat.le_succ _) (.int .i64 D);exact bodyPost_ret (zLC (PA3.drew 1) (PB2.drew 1) _ (by rfl) (by rfl)) rfl ⟨A,B,C,D,rfl,⟨x,y,HL.out⟩,HE.out,BB2.drew⟩
theorem zSD {x y : Nat} (hx : x < 18446744073709551616) (hy : y < 18446744073709551616) (w : World) :
  Calls Tryz.prog 112 #[.int .u64 x,.int .u64 y] w fun e w' => e = .returned (.int .u64 (Nat.gcd x y : Nat)) ∧ Below w.heap.size w w' := by
 obtain ⟨G,hG⟩ : ∃ G,Nat.gcd x y = G := ⟨_,rfl⟩
 have HG := hid hG;rw [hG];clear hG;go_enter Tryz.func112,Tryz.ntmps112;go_wp2_with fail
 go_loopw [0,1] (fun s0 s1 wx => ∃ a b nd : Nat,s0 = .int .u64 a ∧ s1 = .int .u64 b ∧ a < 18446744073709551616 ∧ b < 18446744073709551616 ∧ wx = w.drewN nd ∧ Hid (Nat.gcd a b = G)) (fun _ s1 _ => (intOf s1).toNat)
 case atStart => exact ⟨x,y,0,rfl,rfl,hx,hy,rfl,HG⟩
 case round =>
  obtain ⟨a,b,nd,rfl,rfl,ha,hb,rfl,HG2⟩ := hrel
  by_cases hb0 : b = 0
  ·subst hb0
   have z : ((0 : Int) != 0) = false := rfl;go_wp2;go_ret;refine ⟨?_,below_drewN (Below.refl _ _) nd⟩;have := HG2.out;rw [Nat.gcd_zero_right] at this;rw [← this];rfl
  ·have z : ((b : Int) != 0) = true := by rw [bne_iff_ne];omega
   have z2 : ((b : Int) == 0) = false := by rw [beq_eq_false_iff_ne];omega
   have z3 : ¬ (b : Int) = 0 := by omega
   have hm := Nat.mod_lt a (show 0 < b by omega);obtain ⟨r,hr⟩ : ∃ r,a % b = r := ⟨_,rfl⟩
   have er : (a : Int) % (b : Int) = (r : Int) := by rw [← hr];simp
   have et : (a : Int).tmod (b : Int) = (r : Int) := by rw [← hr];exact (Int.ofNat_tmod a b).symm
   have HG3 : Hid (Nat.gcd b r = G) := by unfold Hid;rw [← hr,← HG2.out,Nat.gcd_comm a b,Nat.gcd_rec b a,Nat.gcd_comm]
   rw [hr] at hm;clear HG2;go_wp2_with fail;go_quiet (fail);go_wp2_with fail;go_roundw
   case rel => exact ⟨b,r,_,rfl,rfl,hb,by omega,by first | rfl | exact World.drewN_drewN _ _ _,HG3⟩
   case measure => simp [intOf];omega
theorem zSG {w : World} {v : Value} {xs : List Int} {p : Nat} (h : Sl w.heap.size w v xs) (hp : p ≤ 9223372036854775807) (hs : vn xs / 2 ^ p < 9223372036854775808) :
  Calls Tryz.prog 135 #[v,.int .i64 (p : Int)] w fun e w' => e = .returned (.int .i64 ((vn xs / 2 ^ p : Nat) : Int)) ∧ Below w.heap.size w w' := by
 have HS := zBH h hp;obtain ⟨H,hH⟩ : ∃ H,vn xs / 2 ^ p = H := ⟨_,rfl⟩
 rw [hH] at HS hs;rw [hH];clear h hH;go_enter Tryz.func135,Tryz.ntmps135;go_wp2_with fail;refine HS.mono ?_;rintro e w1 ⟨zs,r,rfl,ho,hc,hv,hl,hb⟩;have HB := hid hb;clear HS hb;rcases zs with _ | ⟨t,zs'⟩
 ·obtain ⟨a,c,rfl⟩ := ho.form
  have hH0 : H = 0 := by rw [← hv];rfl
  subst hH0;have z : ((0 : Int) == 0) = true := rfl;go_wp2;go_ret;exact ⟨rfl,HB.out⟩
 ·have hz' : zs' = [] := by
   rcases zs' with _ | ⟨t2,zs2⟩
   ·rfl
   ·exfalso
    have h1 := zbE (N := zs2.length + 1) hc (by simp);have h2 : pw 1 ≤ pw (zs2.length + 1) := by
     rw [show zs2.length + 1 = 1 + zs2.length by omega,zFB];have := zbA 1;have := zbA zs2.length;have := Int.mul_le_mul_of_nonneg_left (show 1 ≤ pw zs2.length by omega) (Int.le_of_lt (zbA 1));rw [Int.mul_one] at this;exact this
    have h3 := zaA hc.1;have h4 : pw 1 = 18446744073709551616 := by simp [pw,wB]
    omega
  subst hz';have htH : t = (H : Int) := by
   have h3 := zaA hc.1;rw [hv] at h3
   simpa [val] using h3
  subst htH;obtain ⟨_,⟨_,e⟩ | ⟨g,rr,_,_,rfl,hrow⟩⟩ := ho
  ·cases e
  have c0 : w1.cell? ⟨g,0,none⟩ = some (.int .u64 (H : Int)) := hrow.word (xs := [(H : Int)]) (i := 0) (by simp);have z : ((1 : Int) == 0) = false := rfl;clear hrow;go_wp2;go_ret;exact ⟨by first | rfl | simp,HB.out⟩
theorem zoG {w : World} {v u : Value} {xs ys : List Int} (h : Sl w.heap.size w v xs) (h' : Sl w.heap.size w u ys) (hge : val ys ≤ val xs) :
  Calls Tryz.prog 115 #[v,u] w fun e w' => ∃ zs a cap,e = .returned (.tuple #[.slice a zs.length cap,.int .i64 0]) ∧ Own w.heap.size w' (.slice a zs.length cap) zs ∧ zMA zs ∧ val zs = val xs - val ys ∧ Below w.heap.size w w' :=
 (zWF h h' hge).mono fun e w' ht => by
  obtain ⟨zs,cap,r,h1,h2,h3,h4,h5,h6,h7,h8,h9⟩ := ht;subst h5;exact ⟨zs,_,_,h1,⟨h2.1,.inr ⟨w.heap.size,r,Nat.le_refl _,h6,rfl,h7⟩⟩,h2,h3,h8⟩
def zRF (w : World) (u : Int) (e : Ending) (w' : World) : Prop := ∃ zs r,e = .returned r ∧ Own w.heap.size w' r zs ∧ zMA zs ∧ val zs = u ∧ Below w.heap.size w w'
theorem of_plain {w : World} {va vb : Value} {xs ys : List Int} {A B : Int} (ha : Sl w.heap.size w va xs) (hb : Sl w.heap.size w vb ys) (lx : xs.length < 35184372088832) (ly : ys.length < 35184372088832) (hA0 : 0 ≤ A) (hA1 : A ≤ 1152921504606846976) (hB0 : -1152921504606846976 ≤ B) (hB1 : B ≤ 0) (hu : 0 ≤ A * val xs + B * val ys) :
  Calls Tryz.prog 136 #[.agg #[.int .i64 A,.int .i64 B],va,vb] w (zRF w (A * val xs + B * val ys)) := by
 obtain ⟨W0,hW0⟩ : ∃ W0,w.alloc (.cells #[.int .i64 A,.int .i64 B] 164) = W0 := ⟨_,rfl⟩
 have b0 : Below w.heap.size w W0 := by rw [← hW0];exact (Below.refl _ _).alloc (Nat.le_refl _) _
 have sz0 : W0.heap.size = w.heap.size + 1 := by rw [← hW0];simp
 have HW1 : Hid (∀ w',Below W0.heap.size W0 w' → Calls Tryz.prog 159 #[va,.int .u64 A] w' (zmB w' (val xs * A))) := fun w' h => zJD ((ha.now b0).now h) (by unfold IsW wB;omega) lx
 have HW2 : Hid (∀ w',Below W0.heap.size W0 w' → Calls Tryz.prog 159 #[vb,.int .u64 (-B)] w' (zmB w' (val ys * (-B)))) := fun w' h => zJD ((hb.now b0).now h) (by unfold IsW wB;omega) ly
 have HS : Hid (∀ w1 r1 z1 w2 r2 z2,Below W0.heap.size W0 w1 → Sl w1.heap.size w1 r1 z1 → val z1 = val xs * A → Below w1.heap.size w1 w2 → Sl w2.heap.size w2 r2 z2 → val z2 = val ys * (-B) → Calls Tryz.prog 115 #[r1,r2] w2 fun e w' => ∃ zs a cap,e = .returned (.tuple #[.slice a zs.length cap,.int .i64 0]) ∧ Own w.heap.size w' (.slice a zs.length cap) zs ∧ zMA zs ∧ val zs = A * val xs + B * val ys ∧ Below w.heap.size w w' ∧ Below W0.heap.size W0 w') := fun w1 r1 z1 w2 r2 z2 b1 m1 v1 b2 m2 v2 => by
  have e1 : val z1 - val z2 = A * val xs + B * val ys := by rw [v1,v2,Int.mul_neg,Int.mul_comm,Int.mul_comm (val ys)];omega
  refine (zoG (m1.now b2) m2 (by omega)).mono fun e w' ⟨zs,a,cap,h1,h2,h3,h4,h5⟩ => ⟨zs,a,cap,h1,h2.lower ?_,h3,h4.trans e1,?_,zAA (zAA b1 b2) h5⟩
  ·have := b0.size
   have := b1.size;have := b2.size;omega
  ·exact zAA (zAA (zAA b0 b1) b2) h5
 have f : Pair W0 w.heap.size A B := by rw [← hW0];exact heap_alloc_new w _
 have cB := f.c1;have cA := f.c0;rw [← hW0] at cA cB;have EW := hid hW0;have hBn : ¬ 0 < B := by omega
 clear ha hb f hW0;go_enter Tryz.func136,Tryz.ntmps136;go_wp2_with fail;rw [EW.out];rw [EW.out] at cA cB;have b00 := Below.refl W0.heap.size W0;have HKB : Hid (∀ w',Below W0.heap.size W0 w' → w'.cell? ⟨w.heap.size,0,none⟩ = some (.int .i64 A) ∧ w'.cell? ⟨w.heap.size,1,none⟩ = some (.int .i64 B)) := fun w' h => ⟨(h.cell (p := ⟨w.heap.size,0,none⟩) (by show w.heap.size < W0.heap.size;omega)).trans cA,(h.cell (p := ⟨w.heap.size,1,none⟩) (by show w.heap.size < W0.heap.size;omega)).trans cB⟩
 have ewA : IntKind.u64.wrap A = A := by rw [IntKind.wrap_u64];omega
 have ewB : IntKind.u64.wrap (-B) = -B := by rw [IntKind.wrap_u64];omega
 have ewN : IntKind.i64.wrap (-B) = -B := by rw [IntKind.wrap_i64];omega
 clear b00 EW b0 hu;go_region_held3 (fun w' => w'.cell? ⟨w.heap.size,0,none⟩ = some (.int .i64 A) ∧ w'.cell? ⟨w.heap.size,1,none⟩ = some (.int .i64 B))
  (first
   | ((try dsimp only);refine ⟨?_,?_⟩ <;> with_reducible assumption)
   | (refine HKB.out _ ?_;repeat (first | with_reducible exact HP2.out | with_reducible exact HP1.out | with_reducible exact Below.refl _ _ | with_reducible apply Below.drew)))
  (first
   | (go_at_call_of 159 va;refine (HW1.out _ ?_).mono ?_;(repeat (first | exact Below.refl _ _ | apply Below.drew));rintro e w1 ⟨z1,r1,rfl,m1,c1,v1,b1⟩;have HP1 := hid (zAA (w0 := W0) (by repeat (first | exact Below.refl _ _ | apply Below.drew)) b1);have S1 := hid m1.sl;obtain ⟨k0,k1⟩ := HKB.out w1 HP1.out;clear m1 b1 c1)
   | (go_at_call_of 159 vb;refine (HW2.out _ ?_).mono ?_;(repeat (first | exact HP1.out | apply Below.drew));rintro e w2 ⟨z2,r2,rfl,m2,c2,v2,b2⟩;have HB12 : Hid (Below w1.heap.size w1 w2) := zAA (w0 := w1) (by repeat (first | exact Below.refl _ _ | apply Below.drew)) b2;have HP2 := hid (zAA HP1.out HB12.out);have S2 := hid m2.sl;obtain ⟨l0,l1⟩ := HKB.out w2 HP2.out;clear m2 b2 c2)
   | (go_at_call 115;refine (HS.out w1 r1 z1 w2 r2 z2 HP1.out S1.out v1 HB12.out S2.out v2).mono ?_;rintro e w3 ⟨zs,az,cz,rfl,q1,q2,q3,q4,q5⟩;have HP3 := hid q5;obtain ⟨n0,n1⟩ := HKB.out w3 q5;clear q5))
 all_goals (try go_wp2)
 all_goals go_ret
 all_goals exact ⟨zs,_,rfl,q1,q2,q3,q4⟩
theorem of_swap {w : World} {va vb : Value} {xs ys : List Int} {A B : Int} (ha : Sl w.heap.size w va xs) (hb : Sl w.heap.size w vb ys) (lx : xs.length < 35184372088832) (ly : ys.length < 35184372088832) (hA0 : -1152921504606846976 ≤ A) (hA1 : A ≤ 0) (hB0 : 0 < B) (hB1 : B ≤ 1152921504606846976) (hu : 0 ≤ A * val xs + B * val ys) :
  Calls Tryz.prog 136 #[.agg #[.int .i64 A,.int .i64 B],va,vb] w (zRF w (A * val xs + B * val ys)) := by
 obtain ⟨W0,hW0⟩ : ∃ W0,(w.alloc (.cells #[.int .i64 B,.int .i64 A] 164)).drew = W0 := ⟨_,rfl⟩
 have pf : Pair (w.alloc (.cells #[.int .i64 A,.int .i64 B] 164)) w.heap.size A B := heap_alloc_new w _;have b0 : Below w.heap.size w W0 := by rw [← hW0];exact ((Below.refl _ _).alloc (Nat.le_refl _) _).drew
 have sz0 : W0.heap.size = w.heap.size + 1 := by rw [← hW0];simp [World.drew]
 have HW1 : Hid (∀ w',Below W0.heap.size W0 w' → Calls Tryz.prog 159 #[vb,.int .u64 B] w' (zmB w' (val ys * B))) := fun w' h => zJD ((hb.now b0).now h) (by unfold IsW wB;omega) ly
 have HW2 : Hid (∀ w',Below W0.heap.size W0 w' → Calls Tryz.prog 159 #[va,.int .u64 (-A)] w' (zmB w' (val xs * (-A)))) := fun w' h => zJD ((ha.now b0).now h) (by unfold IsW wB;omega) lx
 have HS : Hid (∀ w1 r1 z1 w2 r2 z2,Below W0.heap.size W0 w1 → Sl w1.heap.size w1 r1 z1 → val z1 = val ys * B → Below w1.heap.size w1 w2 → Sl w2.heap.size w2 r2 z2 → val z2 = val xs * (-A) → Calls Tryz.prog 115 #[r1,r2] w2 fun e w' => ∃ zs a cap,e = .returned (.tuple #[.slice a zs.length cap,.int .i64 0]) ∧ Own w.heap.size w' (.slice a zs.length cap) zs ∧ zMA zs ∧ val zs = A * val xs + B * val ys ∧ Below w.heap.size w w' ∧ Below W0.heap.size W0 w') := fun w1 r1 z1 w2 r2 z2 b1 m1 v1 b2 m2 v2 => by
  have e1 : val z1 - val z2 = A * val xs + B * val ys := by rw [v1,v2,Int.mul_neg,Int.mul_comm (val ys),Int.mul_comm (val xs)];omega
  refine (zoG (m1.now b2) m2 (by omega)).mono fun e w' ⟨zs,a,cap,h1,h2,h3,h4,h5⟩ => ⟨zs,a,cap,h1,h2.lower ?_,h3,h4.trans e1,?_,zAA (zAA b1 b2) h5⟩
  ·have := b0.size
   have := b1.size;have := b2.size;omega
  ·exact zAA (zAA (zAA b0 b1) b2) h5
 have f : Pair W0 w.heap.size B A := by rw [← hW0];exact heap_alloc_new w _
 have cA := f.c0;have cB := f.c1;have oA := pf.c0;have oB := pf.c1;have g0 := pf.fz 0;have g1 := pf.fz 1;have EW := hid hW0;clear ha hb f hW0 pf;go_enter Tryz.func136,Tryz.ntmps136;go_wp2_with fail;go_region;go_wp2_with fail;rw [EW.out];clear oA oB g0 g1;have HKB : Hid (∀ w',Below W0.heap.size W0 w' → w'.cell? ⟨w.heap.size,0,none⟩ = some (.int .i64 B) ∧ w'.cell? ⟨w.heap.size,1,none⟩ = some (.int .i64 A)) := fun w' h => ⟨(h.cell (p := ⟨w.heap.size,0,none⟩) (by show w.heap.size < W0.heap.size;omega)).trans cA,(h.cell (p := ⟨w.heap.size,1,none⟩) (by show w.heap.size < W0.heap.size;omega)).trans cB⟩
 have ewA : IntKind.u64.wrap B = B := by rw [IntKind.wrap_u64];omega
 have ewB : IntKind.u64.wrap (-A) = -A := by rw [IntKind.wrap_u64];omega
 have ewN : IntKind.i64.wrap (-A) = -A := by rw [IntKind.wrap_i64];omega
 clear EW b0 hu;go_region_held3 (fun w' => w'.cell? ⟨w.heap.size,0,none⟩ = some (.int .i64 B) ∧ w'.cell? ⟨w.heap.size,1,none⟩ = some (.int .i64 A))
  (first
   | ((try dsimp only);refine ⟨?_,?_⟩ <;> with_reducible assumption)
   | (refine HKB.out _ ?_;repeat (first | with_reducible exact HP2.out | with_reducible exact HP1.out | with_reducible exact Below.refl _ _ | with_reducible apply Below.drew)))
  (first
   | (go_at_call_of 159 vb;refine (HW1.out _ ?_).mono ?_;(repeat (first | exact Below.refl _ _ | apply Below.drew));rintro e w1 ⟨z1,r1,rfl,m1,c1,v1,b1⟩;have HP1 := hid (zAA (w0 := W0) (by repeat (first | exact Below.refl _ _ | apply Below.drew)) b1);have S1 := hid m1.sl;obtain ⟨k0,k1⟩ := HKB.out w1 HP1.out;clear m1 b1 c1)
   | (go_at_call_of 159 va;refine (HW2.out _ ?_).mono ?_;(repeat (first | exact HP1.out | apply Below.drew));rintro e w2 ⟨z2,r2,rfl,m2,c2,v2,b2⟩;have HB12 : Hid (Below w1.heap.size w1 w2) := zAA (w0 := w1) (by repeat (first | exact Below.refl _ _ | apply Below.drew)) b2;have HP2 := hid (zAA HP1.out HB12.out);have S2 := hid m2.sl;obtain ⟨l0,l1⟩ := HKB.out w2 HP2.out;clear m2 b2 c2)
   | (go_at_call 115;refine (HS.out w1 r1 z1 w2 r2 z2 HP1.out S1.out v1 HB12.out S2.out v2).mono ?_;rintro e w3 ⟨zs,az,cz,rfl,q1,q2,q3,q4,q5⟩;have HP3 := hid q5;obtain ⟨n0,n1⟩ := HKB.out w3 q5;clear q5))
 all_goals (try go_wp2)
 all_goals go_ret
 all_goals exact ⟨zs,_,rfl,q1,q2,q3,q4⟩
theorem zCI {w : World} {va vb : Value} {xs ys : List Int} {A B : Int} (ha : Sl w.heap.size w va xs) (hb : Sl w.heap.size w vb ys) (lx : xs.length < 35184372088832) (ly : ys.length < 35184372088832) (hx : 0 < val xs) (hA0 : -1152921504606846976 ≤ A) (hA1 : A ≤ 1152921504606846976) (hB0 : -1152921504606846976 ≤ B) (hB1 : B ≤ 1152921504606846976) (hs : (0 ≤ A ∧ B ≤ 0) ∨ (A ≤ 0 ∧ 0 ≤ B)) (hu : 0 ≤ A * val xs + B * val ys) :
  Calls Tryz.prog 136 #[.agg #[.int .i64 A,.int .i64 B],va,vb] w (zRF w (A * val xs + B * val ys)) := by
 by_cases h : 0 < B
 ·exact of_swap ha hb lx ly hA0 (by omega) h hB1 hu
 ·refine of_plain ha hb lx ly ?_ hA1 hB0 (by omega) hu
  rcases hs with hs | hs
  ·exact hs.1
  ·have hB : B = 0 := by omega
   rw [hB,Int.zero_mul,Int.add_zero] at hu;refine Int.not_lt.1 fun hn => ?_
   have := Int.mul_neg_of_neg_of_pos hn hx;omega
def Neared (B0 : Nat) (w : World) (X Y : Int) (e : Ending) (w' : World) : Prop :=
 ∃ us vs ru rv,e = .returned (.tuple #[ru,rv]) ∧ Own B0 w' ru us ∧ Own B0 w' rv vs ∧ zMA us ∧ zMA vs ∧ ig (val us) (val vs) = ig X Y ∧ val vs ≤ val us ∧ val vs < Y ∧ val us ≤ Y ∧ Below w.heap.size w w'
theorem bitLen_bounds {v : Nat} (h : v ≠ 0) : v < 2 ^ bitLen v ∧ 2 ^ (bitLen v - 1) ≤ v := by
 have e : bitLen v = Nat.log2 v + 1 := by unfold bitLen;rw [if_neg h]
 rw [e];exact ⟨Nat.lt_log2_self,by rw [Nat.add_sub_cancel];exact Nat.log2_self_le h⟩
theorem zwD {B0 : Nat} {w : World} {va vb : Value} {xs ys : List Int} (ha : Own B0 w va xs) (hb : Own B0 w vb ys) (cx : zMA xs) (cy : zMA ys) (hle : val ys ≤ val xs) (hy2 : 2 ≤ ys.length) (lx : xs.length ≤ 1099511627776) (ly : ys.length ≤ 1099511627776) (hB : B0 ≤ w.heap.size) :
  Calls Tryz.prog 110 #[va,vb] w (Neared B0 w (val xs) (val ys)) := by
 have hvx := zaA cx.1;have hvy := zaA cy.1;have hyb : 18446744073709551616 ≤ val ys := by
  obtain ⟨N,hN⟩ : ∃ N,ys.length = N + 1 + 1 := ⟨ys.length - 2,by omega⟩
  have h1 := zbE cy hN;have h2 : pw (N + 1) = wB * pw N := rfl;have h3 := zbA N;have h4 : wB = 18446744073709551616 := rfl;rw [h2,h4] at h1;omega
 have L1 := ztC ha.sl;have hb0 := bitLen_bounds (v := vn xs) (by omega);obtain ⟨m,hm⟩ : ∃ m,bitLen (vn xs) = m := ⟨_,rfl⟩
 rw [hm] at L1 hb0;have hm64 : 64 < m := by
  refine Nat.lt_of_not_le fun h => ?_
  have : 2 ^ m ≤ 2 ^ 64 := Nat.pow_le_pow_right (by omega) h;omega
 have hml : m ≤ 64 * xs.length := by
  rw [← hm];unfold bitLen;rw [if_neg (by omega)];have := (Nat.log2_lt (n := vn xs) (k := 64 * xs.length) (by omega)).2 (znG cx.1);omega
 obtain ⟨p,hp⟩ : ∃ p,m = p + 60 := ⟨m - 60,by omega⟩
 have hPp := Nat.two_pow_pos p;obtain ⟨P,hP⟩ : ∃ P,2 ^ p = P := ⟨_,rfl⟩
 have hxP : vn xs < P * 1152921504606846976 := by
  have := hb0.1;rw [hp,Nat.pow_add,hP] at this;exact this
 have hdx : vn xs / P < 1152921504606846976 := by rw [Nat.div_lt_iff_lt_mul (by omega),Nat.mul_comm];exact hxP
 have hdy : vn ys / P < 1152921504606846976 := by rw [Nat.div_lt_iff_lt_mul (by omega),Nat.mul_comm];omega
 have HD1 := hid (zSG (p := p) ha.sl (by omega) (by rw [hP];omega));have HD2 : Hid (∀ w',Below w.heap.size w w' → Calls Tryz.prog 135 #[vb,.int .i64 (p : Int)] w' fun e w'' => e = .returned (.int .i64 ((vn ys / P : Nat) : Int)) ∧ Below w'.heap.size w' w'') := fun w' h => by
  have := zSG (p := p) (hb.sl.now h) (by omega) (by rw [hP];omega);rw [hP] at this;exact this
 rw [hP] at HD1;have ex : val xs = ((vn xs / P : Nat) : Int) * (P : Int) + ((vn xs % P : Nat) : Int) := by
  rw [hvx,← Int.natCast_mul];have := Nat.div_add_mod (vn xs) P;rw [Nat.mul_comm] at this;omega
 have ey : val ys = ((vn ys / P : Nat) : Int) * (P : Int) + ((vn ys % P : Nat) : Int) := by
  rw [hvy,← Int.natCast_mul];have := Nat.div_add_mod (vn ys) P;rw [Nat.mul_comm] at this;omega
 have hax := Nat.mod_lt (vn xs) (show 0 < P by omega);have hay := Nat.mod_lt (vn ys) (show 0 < P by omega);obtain ⟨xh,hxh⟩ : ∃ xh : Int,((vn xs / P : Nat) : Int) = xh := ⟨_,rfl⟩
 obtain ⟨yh,hyh⟩ : ∃ yh : Int,((vn ys / P : Nat) : Int) = yh := ⟨_,rfl⟩
 obtain ⟨al,hal⟩ : ∃ al : Int,((vn xs % P : Nat) : Int) = al := ⟨_,rfl⟩
 obtain ⟨be,hbe⟩ : ∃ be : Int,((vn ys % P : Nat) : Int) = be := ⟨_,rfl⟩
 have xh0 : 0 ≤ xh := by rw [← hxh];exact Int.natCast_nonneg _
 have xh1 : xh < 1152921504606846976 := by omega
 have yh0 : 0 ≤ yh := by rw [← hyh];exact Int.natCast_nonneg _
 have yh1 : yh < 1152921504606846976 := by omega
 have HEU : Hid (∀ A B C D,zsD xh yh A B C D → 0 ≤ A * val xs + B * val ys ∧ 0 ≤ C * val xs + D * val ys ∧ ig (A * val xs + B * val ys) (C * val xs + D * val ys) = ig (val xs) (val ys) ∧ ((A = 1 ∧ B = 0 ∧ C = 0 ∧ D = 1) ∨ (C ≠ 0 ∧ C * val xs + D * val ys < A * val xs + B * val ys ∧ C * val xs + D * val ys < val ys ∧ A * val xs + B * val ys ≤ val ys))) := fun A B C D h => by
  have := h (P : Int) al be (by omega) (by omega) (by omega) (by omega) (by omega);rw [hxh,hal] at ex;rw [hyh,hbe] at ey;rw [ex,ey];exact this
 rw [hxh] at HD1;rw [hyh] at HD2;have HX := hid ha;have HY := hid hb;have e1 : (m : Int) - 60 = (p : Int) := by omega
 have HVP : Hid (0 < val xs) := by unfold Hid;omega
 clear ha hb hvx hvy hb0 hm hP hxP hdx hdy ex ey hax hay hxh hyh hal hbe hp;go_enter Tryz.func110,Tryz.ntmps110;go_wp2_with fail;refine L1.mono ?_;rintro e w0 ⟨rfl,rfl⟩;clear L1;go_wp2_with fail;refine HD1.out.mono ?_;rintro e w1 ⟨rfl,b1⟩;have D2 := hid (HD2.out w1 b1);have K1 := hid b1;clear HD1 HD2 b1;go_wp2_with fail;refine D2.out.mono ?_;rintro e w2 ⟨rfl,b2⟩;have K2 := hid (zAA K1.out b2);have HSH := hid (shares_any (w := w2) xh0 xh1 yh0 yh1);clear D2 b2 K1;go_wp2_with fail;refine HSH.out.mono ?_;rintro e w3 ⟨A,B,C,D,rfl,⟨x,y,hleh⟩,heuc,b3⟩;obtain ⟨⟨bA0,bA1⟩,⟨bB0,bB1⟩,⟨bC0,bC1⟩,⟨bD0,bD1⟩,-,-⟩ := hleh.bounds;obtain ⟨-,-,-,-,-,-,sg⟩ := hleh;obtain ⟨u0,v0,hig,alt⟩ := HEU.out A B C D heuc;have K3 := hid (zAA K2.out b3);clear HSH b3 K2 HEU heuc;obtain ⟨W5,hW5⟩ : ∃ W5,(w3.alloc (.cells #[.int .i64 A,.int .i64 B] 164)).alloc (.cells #[.int .i64 C,.int .i64 D] 164) = W5 := ⟨_,rfl⟩
 have b5 : Below w3.heap.size w3 W5 := by rw [← hW5];exact ((Below.refl _ _).alloc (Nat.le_refl _) _).alloc (by simp) _
 have sz5 : W5.heap.size = w3.heap.size + 1 + 1 := by rw [← hW5];simp
 have pA : Pair W5 w3.heap.size A B := by
  rw [← hW5];unfold Pair;rw [Below.heap_alloc _ _ _ (by simp)];exact heap_alloc_new w3 _
 have pC : Pair W5 (w3.heap.size + 1) C D := by
  rw [← hW5];unfold Pair;have := heap_alloc_new (w3.alloc (.cells #[.int .i64 A,.int .i64 B] 164)) (.cells #[.int .i64 C,.int .i64 D] 164)
  simpa using this
 have K5 := hid (zAA K3.out b5);have cC0 := pC.c0;have HX5 := hid ((HX.out.stay K5.out));have HY5 := hid ((HY.out.stay K5.out));have HKB : Hid (∀ w',Below W5.heap.size W5 w' → w'.cell? ⟨w3.heap.size,0,none⟩ = some (.int .i64 A) ∧ w'.cell? ⟨w3.heap.size,1,none⟩ = some (.int .i64 B) ∧ w'.cell? ⟨w3.heap.size + 1,0,none⟩ = some (.int .i64 C) ∧ w'.cell? ⟨w3.heap.size + 1,1,none⟩ = some (.int .i64 D)) := fun w' h =>
  ⟨(h.cell (p := ⟨w3.heap.size,0,none⟩) (by show w3.heap.size < W5.heap.size;omega)).trans pA.c0,(h.cell (p := ⟨w3.heap.size,1,none⟩) (by show w3.heap.size < W5.heap.size;omega)).trans pA.c1,(h.cell (p := ⟨w3.heap.size + 1,0,none⟩) (by show w3.heap.size + 1 < W5.heap.size;omega)).trans pC.c0,(h.cell (p := ⟨w3.heap.size + 1,1,none⟩) (by show w3.heap.size + 1 < W5.heap.size;omega)).trans pC.c1⟩
 obtain ⟨r0,r1,r2,r3⟩ := HKB.out W5 (Below.refl _ _);have EW := hid hW5;have cC0' := cC0;rw [← hW5] at cC0';have HSZ : Hid (w0.heap.size ≤ W5.heap.size) := K5.out.size;clear b5 pA pC cC0 K3 hW5
 by_cases hC : C = 0
 ·subst hC
  have z : ((0 : Int) == 0) = true := rfl;have HDM := hid (zDE HX5.out.sl HY5.out.sl (by rw [cy.2];omega) lx ly);clear alt;go_wp2_with fail;rw [EW.out];refine HDM.out.mono ?_;rintro e w6 ⟨qs,rs,q,r,rfl,hoq,hor,hcq,hcr,hv,hlt,hlq,hlr,_,b6⟩;have K6 := hid (zAA K5.out b6);have HR := hid hor;have HY6 := hid (HY5.out.stay b6);have HV : Hid (val xs = val ys * val qs + val rs ∧ val rs < val ys) := ⟨hv,hlt⟩
  clear HDM hoq hor hv hlt b6;go_wp2;go_ret2;have hr0 := zGA hcr.1;have hst := zSE (u := val xs) (v := val ys) (q := val qs) (r := val rs) (Int.le_of_lt HVP.out) (by omega) hr0 HV.out.2 (by rw [HV.out.1,Int.mul_comm];omega);exact ⟨ys,rs,vb,r,rfl,HY6.out,HR.out.lower (by have := HSZ.out;omega),cy,hcr,hst,by have := HV.out.2;omega,HV.out.2,Int.le_refl _,K6.out⟩
 ·have z : (C == 0) = false := by simp [hC]
  have halt : C * val xs + D * val ys < A * val xs + B * val ys ∧ C * val xs + D * val ys < val ys ∧ A * val xs + B * val ys ≤ val ys := by
   rcases alt with ⟨_,_,h,_⟩ | ⟨_,h⟩
   ·exact absurd h hC
   ·exact h
  have HF : Hid (C * val xs + D * val ys < A * val xs + B * val ys ∧ C * val xs + D * val ys < val ys ∧ A * val xs + B * val ys ≤ val ys ∧ ig (A * val xs + B * val ys) (C * val xs + D * val ys) = ig (val xs) (val ys)) := ⟨halt.1,halt.2.1,halt.2.2,hig⟩
  have HO1 : Hid (∀ w',Below W5.heap.size W5 w' → Calls Tryz.prog 136 #[.agg #[.int .i64 A,.int .i64 B],va,vb] w' (zRF w' (A * val xs + B * val ys))) := fun w' h => zCI (HX5.out.sl.now h) (HY5.out.sl.now h) (by omega) (by omega) HVP.out bA0 bA1 bB0 bB1 (by rcases sg with s | s <;> omega) u0
  have HO2 : Hid (∀ w',Below W5.heap.size W5 w' → Calls Tryz.prog 136 #[.agg #[.int .i64 C,.int .i64 D],va,vb] w' (zRF w' (C * val xs + D * val ys))) := fun w' h => zCI (HX5.out.sl.now h) (HY5.out.sl.now h) (by omega) (by omega) HVP.out bC0 bC1 bD0 bD1 (by rcases sg with s | s <;> omega) v0
  clear alt halt hig u0 v0 sg HX HY;go_wp2_with fail;rw [EW.out];clear EW cC0';go_region_held3 (fun w' => w'.cell? ⟨w3.heap.size,0,none⟩ = some (.int .i64 A) ∧ w'.cell? ⟨w3.heap.size,1,none⟩ = some (.int .i64 B) ∧ w'.cell? ⟨w3.heap.size + 1,0,none⟩ = some (.int .i64 C) ∧ w'.cell? ⟨w3.heap.size + 1,1,none⟩ = some (.int .i64 D))
   (first
    | ((try dsimp only);refine ⟨?_,?_,?_,?_⟩ <;> with_reducible assumption)
    | (refine HKB.out _ ?_;repeat (first | with_reducible exact HP2.out | with_reducible exact HP1.out | with_reducible exact Below.refl _ _ | with_reducible apply Below.drew)))
   (first
    | (go_at_call_of 136 (Value.agg #[Value.int IntKind.i64 A,Value.int IntKind.i64 B]);refine (HO1.out _ ?_).mono ?_;(repeat (first | exact Below.refl _ _ | apply Below.drew));rintro e w6 ⟨us,ru,rfl,o1,c1,v1,b1⟩;have HP1 := hid (zAA (w0 := W5) (by repeat (first | exact Below.refl _ _ | apply Below.drew)) b1);have HU := hid (o1.lower (B' := B0) (by have := HSZ.out;show B0 ≤ W5.heap.size;omega));obtain ⟨k0,k1,k2,k3⟩ := HKB.out w6 HP1.out;clear o1 b1)
    | (go_at_call_of 136 (Value.agg #[Value.int IntKind.i64 C,Value.int IntKind.i64 D]);refine (HO2.out _ ?_).mono ?_;(repeat (first | exact HP1.out | apply Below.drew));rintro e w7 ⟨vs,rv,rfl,o2,c2,v2,b2⟩;have HB12 : Hid (Below w6.heap.size w6 w7) := zAA (w0 := w6) (by repeat (first | exact Below.refl _ _ | apply Below.drew)) b2;have HP2 := hid (zAA HP1.out HB12.out);have HVV := hid (o2.lower (B' := B0) (by have := HSZ.out;have := HP1.out.size;show B0 ≤ w6.heap.size;omega));obtain ⟨l0,l1,l2,l3⟩ := HKB.out w7 HP2.out;clear o2 b2))
  all_goals (try go_wp2)
  all_goals go_ret2
  all_goals exact ⟨us,vs,ru,rv,rfl,HU.out.stay HB12.out,HVV.out,c1,c2,by rw [v1,v2];exact HF.out.2.2.2,by rw [v1,v2];exact Int.le_of_lt HF.out.1,by rw [v2];exact HF.out.2.1,by rw [v1];exact HF.out.2.2.1,zAA K5.out HP2.out⟩
def Gcded (w : World) (X Y : Int) (e : Ending) (w' : World) : Prop :=
 ∃ zs r,e = .returned r ∧ Own w.heap.size w' r zs ∧ zMA zs ∧ val zs = (ig X Y : Int) ∧ Below w.heap.size w w'
theorem ig_comm (u v : Int) : ig u v = ig v u := by unfold ig;exact Nat.gcd_comm _ _
theorem zQH {u : Int} (h : 0 ≤ u) : (ig u 0 : Int) = u := by unfold ig;simp;omega
theorem gcd_any {w : World} {va vb : Value} {xs ys : List Int} (ha : Sl w.heap.size w va xs) (hb : Sl w.heap.size w vb ys) (lx : xs.length ≤ 1099511627776) (ly : ys.length ≤ 1099511627776) :
  Calls Tryz.prog 86 #[va,vb] w (Gcded w (val xs) (val ys)) := by
 have HL1 := ziB ha;have HB := hid hb;have HA := hid ha;have hwx := hid ha.1;have hwy := hid hb.1;have w1x := zSA xs;have w1y := zSA ys;clear ha hb;go_enter Tryz.func86,Tryz.ntmps86;go_wp2_with fail;refine HL1.mono ?_;rintro e w1 ⟨ra,rfl,oa,b1⟩;have HL2 := hid (ziB (HB.out.now b1));have OA := hid oa;have K1 := hid b1;clear HL1 oa b1 HA;go_wp2_with fail;refine HL2.out.mono ?_;rintro e w2 ⟨rb,rfl,ob,b2⟩;have OA2 := hid (OA.out.stay b2);have OB2 := hid (ob.lower (B' := w.heap.size) K1.out.size);have K2 := hid (zAA K1.out b2);have HC := hid (zYE OA2.out.sl OB2.out.sl);rw [val_lst,val_lst] at HC;clear HL2 ob b2 OA HB K1;have START : Hid (∀ (wx : World) (s0 s1 : Value) (us vs : List Int),Own w.heap.size wx s0 us → Own w.heap.size wx s1 vs → zMA us → zMA vs → val vs ≤ val us → ig (val us) (val vs) = ig (val xs) (val ys) → us.length ≤ 1099511627776 → vs.length ≤ 1099511627776 → Below w.heap.size w wx →
   ∃ us vs : List Int,((val vs).toNat : Int) = val vs ∧ Hid (Own w.heap.size wx s0 us) ∧ Hid (Own w.heap.size wx s1 vs) ∧ Hid (zMA us ∧ zMA vs ∧ val vs ≤ val us ∧ ig (val us) (val vs) = ig (val xs) (val ys)) ∧ us.length ≤ 1099511627776 ∧ vs.length ≤ 1099511627776 ∧ Hid (Below w.heap.size w wx)) := fun wx s0 s1 us vs h1 h2 h3 h4 h5 h6 h7 h8 h9 => ⟨us,vs,Int.toNat_of_nonneg (zGA h4.1),h1,h2,⟨h3,h4,h5,h6⟩,h7,h8,h9⟩
 go_wp2_with fail;refine HC.out.mono ?_;rintro e w3 ⟨rfl,b3⟩;have OA3 := hid (OA2.out.stay b3);have OB3 := hid (OB2.out.stay b3);have K3 := hid (zAA K2.out b3);have ca := hid (canon_lst hwx.out);have cb := hid (canon_lst hwy.out);have la : (lst xs).length ≤ 1099511627776 := by rw [zHA];omega
 have lb : (lst ys).length ≤ 1099511627776 := by rw [zHA];omega
 have va' := hid (val_lst xs);have vb' := hid (val_lst ys);clear HC b3 OA2 OB2 K2;generalize lst xs = L1 at *;generalize lst ys = L2 at *;obtain ⟨a1,c1,rfl⟩ := OA3.out.form;obtain ⟨a2,c2,rfl⟩ := OB3.out.form
 by_cases hlt : val xs < val ys
 ·have hneg := zPD hlt
  generalize cmpI (val xs) (val ys) = CC at *;have H0 := hid (START.out w3 _ _ L2 L1 OB3.out OA3.out cb.out ca.out (by rw [va'.out,vb'.out];omega) (by rw [va'.out,vb'.out];exact ig_comm _ _) lb la K3.out);go_wp2_with fail;obtain ⟨us0,vs0,hg0,h1,h2,h3,h4,h5,h6⟩ := H0.out
  go_loopg [0,1] (val vs0).toNat (fun g s0 s1 wx => ∃ us vs : List Int,(g : Int) = val vs ∧ Hid (Own w.heap.size wx s0 us) ∧ Hid (Own w.heap.size wx s1 vs) ∧ Hid (zMA us ∧ zMA vs ∧ val vs ≤ val us ∧ ig (val us) (val vs) = ig (val xs) (val ys)) ∧ us.length ≤ 1099511627776 ∧ vs.length ≤ 1099511627776 ∧ Hid (Below w.heap.size w wx))
  case atStart => exact ⟨us0,vs0,hg0,h1,h2,h3,h4,h5,h6⟩
  case round =>
   clear hg0 h1 h2 h3 h4 h5 h6 H0 START OA3 OB3 K3 ca cb la lb va' vb';obtain ⟨us,vs,hg,OU,OV,HF,lu,lv,KK⟩ := hrel;obtain ⟨au,cu,rfl⟩ := OU.out.form;obtain ⟨av,cv,rfl⟩ := OV.out.form
   by_cases h1 : 1 < vs.length
   ·have z : (1 : Int) < (vs.length : Int) := by omega
    have HN := hid (zwD (B0 := w.heap.size) OU.out OV.out HF.out.1 HF.out.2.1 HF.out.2.2.1 (by omega) lu lv KK.out.size);obtain ⟨nu,hnu⟩ : ∃ nu,us.length = nu := ⟨_,rfl⟩
    obtain ⟨nv,hnv⟩ : ∃ nv,vs.length = nv := ⟨_,rfl⟩
    have HNV := hid hnv;rw [hnu,hnv] at HN;rw [hnv] at lv h1 z;rw [hnu] at lu;rw [hnu,hnv];clear hnu hnv;go_wp2_with fail;refine HN.out.mono ?_;rintro e w4 ⟨us',vs',ru,rv,rfl,ou,ov,cu',cv',hig,hle,hltv,hleu,b4⟩;have K4 := hid (KK.out.trans (b4.mono KK.out.size));have OU4 := hid ou;have OV4 := hid ov;have HF4 : Hid (zMA us' ∧ zMA vs' ∧ val vs' ≤ val us' ∧ ig (val us') (val vs') = ig (val xs) (val ys)) := ⟨cu',cv',hle,hig.trans HF.out.2.2.2⟩
    have HLEN : Hid (us'.length ≤ 1099511627776 ∧ vs'.length ≤ 1099511627776) := by
     have a1 := HF.out.2.1;have a2 := zoA cu' a1 hleu;have a3 := zoA cv' a1 (Int.le_of_lt hltv);have a4 := HNV.out;exact ⟨by omega,by omega⟩
    have hv0 := zGA cv'.1;have HGG : Hid (((val vs').toNat : Int) = val vs' ∧ (val vs').toNat < gk) := ⟨Int.toNat_of_nonneg hv0,by omega⟩
    clear HN ou ov b4 hig hle hltv hleu hg HF OU OV KK;go_wp2_with fail;go_roundg (val vs').toNat
    case rel => exact ⟨us',vs',HGG.out.1,OU4,OV4,HF4,HLEN.out.1,HLEN.out.2,K4⟩
    case measure => exact HGG.out.2
   ·have z : ¬ (1 : Int) < (vs.length : Int) := by omega
    by_cases h0 : vs.length = 0
    ·have hv : vs = [] := List.eq_nil_of_length_eq_zero h0
     have z0 : ((vs.length : Int) == 0) = true := by rw [beq_iff_eq];omega
     have HE : Hid (val us = (ig (val xs) (val ys) : Int)) := by
      unfold Hid;rw [← HF.out.2.2.2,hv];exact (zQH (zGA HF.out.1.1)).symm
     have HCU := hid HF.out.1;generalize us.length = nu at *;generalize vs.length = nv at *;clear hg HF;go_wp2;go_ret;exact ⟨us,_,rfl,OU.out,HCU.out,HE.out,KK.out⟩
    ·obtain ⟨t,ht⟩ : ∃ t,vs = [t] := by
      rcases vs with _ | ⟨t,_ | ⟨t2,r⟩⟩
      ·simp at h0
      ·exact ⟨t,rfl⟩
      ·simp at h1
     subst ht;have htw := HF.out.2.1.1.head;have et : val [t] = t := by simp [val]
     have htp : 0 < t := by
      have := ziA HF.out.2.1.1 (by rw [HF.out.2.1.2];simp);omega
     obtain ⟨_,⟨_,e⟩ | ⟨g,rr,_,_,hvv,hrow⟩⟩ := OV.out
     ·cases e
     simp only [Value.slice.injEq] at hvv;obtain ⟨rfl,_,_⟩ := hvv;have cc : wr.cell? ⟨g,0,none⟩ = some (.int .u64 t) := hrow.word (xs := [t]) (i := 0) (by simp);have HW := hid (zQC OU.out.sl htw htp);have HRW := hid hrow;have z1 : ((1 : Int) == 0) = false := rfl;rw [et] at HF;obtain ⟨T,rfl⟩ := Int.eq_ofNat_of_zero_le htw.1;have hT := htw.2;unfold wB at hT;clear hrow hg z;have z : ¬ (1 : Int) < 1 := by omega
     generalize us.length = nu at *;go_wp2_with fail;refine HW.out.mono ?_;rintro e w4 ⟨qs,q,r,rfl,hoq,hcq,hrw,hlt,hv,hlq,b4⟩;have cc4 : w4.cell? ⟨g,0,none⟩ = some (.int .u64 (T : Int)) := (b4.cell (p := ⟨g,0,none⟩) HRW.out.lt).trans cc;obtain ⟨R,rfl⟩ := Int.eq_ofNat_of_zero_le hrw.1;have hR := hrw.2;unfold wB at hR;have K4 := hid (KK.out.trans (b4.mono KK.out.size));have hst := zSE (u := val us) (v := (T : Int)) (q := val qs) (r := (R : Int)) (zGA HF.out.1.1) htp hrw.1 hlt (by rw [hv,Int.mul_comm];omega);have HGD : Hid ((Nat.gcd T R : Nat) = ig (val xs) (val ys)) := by
      unfold Hid;rw [← HF.out.2.2.2,← hst];unfold ig
      simp
     have HG1 : Hid (0 < Nat.gcd T R ∧ Nat.gcd T R ≤ T) := ⟨Nat.gcd_pos_of_pos_left _ (by omega),Nat.gcd_le_left _ (by omega)⟩
     have HWG := hid (zSD (x := T) (y := R) (by omega) (by omega) w4);obtain ⟨qa,qc,rfl⟩ := hoq.form;generalize Nat.gcd T R = GG at *;clear HW hoq hcq hv hlq b4 hst cc hrw hlt HF OU;go_wp2_with fail;refine HWG.out.mono ?_;rintro e w5 ⟨rfl,b5⟩;have K5 := hid (K4.out.trans (b5.mono K4.out.size));clear HWG b5;have hgw : IsW (GG : Int) := by have := HG1.out;unfold IsW wB;omega
     go_wp2;go_ret;refine ⟨[(GG : Int)],_,rfl,⟨WF.cons hgw WF.nil,.inr ⟨w5.heap.size,[],K5.out.size,by simp,rfl,?_⟩⟩,⟨WF.cons hgw WF.nil,?_⟩,by rw [← HGD.out];simp [val],?_⟩
     ·exact heap_alloc_new w5 _
     ·have := HG1.out.1
      simp [wid];omega
     ·exact K5.out.alloc K5.out.size _
 ·have hneg := zsB (show val ys ≤ val xs by omega)
  generalize cmpI (val xs) (val ys) = CC at *;have H0 := hid (START.out w3 _ _ L1 L2 OA3.out OB3.out ca.out cb.out (by rw [va'.out,vb'.out];omega) (by rw [va'.out,vb'.out]) la lb K3.out);go_wp2_with fail;obtain ⟨us0,vs0,hg0,h1,h2,h3,h4,h5,h6⟩ := H0.out
  go_loopg [0,1] (val vs0).toNat (fun g s0 s1 wx => ∃ us vs : List Int,(g : Int) = val vs ∧ Hid (Own w.heap.size wx s0 us) ∧ Hid (Own w.heap.size wx s1 vs) ∧ Hid (zMA us ∧ zMA vs ∧ val vs ≤ val us ∧ ig (val us) (val vs) = ig (val xs) (val ys)) ∧ us.length ≤ 1099511627776 ∧ vs.length ≤ 1099511627776 ∧ Hid (Below w.heap.size w wx))
  case atStart => exact ⟨us0,vs0,hg0,h1,h2,h3,h4,h5,h6⟩
  case round =>
   clear hg0 h1 h2 h3 h4 h5 h6 H0 START OA3 OB3 K3 ca cb la lb va' vb';obtain ⟨us,vs,hg,OU,OV,HF,lu,lv,KK⟩ := hrel;obtain ⟨au,cu,rfl⟩ := OU.out.form;obtain ⟨av,cv,rfl⟩ := OV.out.form
   by_cases h1 : 1 < vs.length
   ·have z : (1 : Int) < (vs.length : Int) := by omega
    have HN := hid (zwD (B0 := w.heap.size) OU.out OV.out HF.out.1 HF.out.2.1 HF.out.2.2.1 (by omega) lu lv KK.out.size);obtain ⟨nu,hnu⟩ : ∃ nu,us.length = nu := ⟨_,rfl⟩
    obtain ⟨nv,hnv⟩ : ∃ nv,vs.length = nv := ⟨_,rfl⟩
    have HNV := hid hnv;rw [hnu,hnv] at HN;rw [hnv] at lv h1 z;rw [hnu] at lu;rw [hnu,hnv];clear hnu hnv;go_wp2_with fail;refine HN.out.mono ?_;rintro e w4 ⟨us',vs',ru,rv,rfl,ou,ov,cu',cv',hig,hle,hltv,hleu,b4⟩;have K4 := hid (KK.out.trans (b4.mono KK.out.size));have OU4 := hid ou;have OV4 := hid ov;have HF4 : Hid (zMA us' ∧ zMA vs' ∧ val vs' ≤ val us' ∧ ig (val us') (val vs') = ig (val xs) (val ys)) := ⟨cu',cv',hle,hig.trans HF.out.2.2.2⟩
    have HLEN : Hid (us'.length ≤ 1099511627776 ∧ vs'.length ≤ 1099511627776) := by
     have a1 := HF.out.2.1;have a2 := zoA cu' a1 hleu;have a3 := zoA cv' a1 (Int.le_of_lt hltv);have a4 := HNV.out;exact ⟨by omega,by omega⟩
    have hv0 := zGA cv'.1;have HGG : Hid (((val vs').toNat : Int) = val vs' ∧ (val vs').toNat < gk) := ⟨Int.toNat_of_nonneg hv0,by omega⟩
    clear HN ou ov b4 hig hle hltv hleu hg HF OU OV KK;go_wp2_with fail;go_roundg (val vs').toNat
    case rel => exact ⟨us',vs',HGG.out.1,OU4,OV4,HF4,HLEN.out.1,HLEN.out.2,K4⟩
    case measure => exact HGG.out.2
   ·have z : ¬ (1 : Int) < (vs.length : Int) := by omega
    by_cases h0 : vs.length = 0
    ·have hv : vs = [] := List.eq_nil_of_length_eq_zero h0
     have z0 : ((vs.length : Int) == 0) = true := by rw [beq_iff_eq];omega
     have HE : Hid (val us = (ig (val xs) (val ys) : Int)) := by
      unfold Hid;rw [← HF.out.2.2.2,hv];exact (zQH (zGA HF.out.1.1)).symm
     have HCU := hid HF.out.1;generalize us.length = nu at *;generalize vs.length = nv at *;clear hg HF;go_wp2;go_ret;exact ⟨us,_,rfl,OU.out,HCU.out,HE.out,KK.out⟩
    ·obtain ⟨t,ht⟩ : ∃ t,vs = [t] := by
      rcases vs with _ | ⟨t,_ | ⟨t2,r⟩⟩
      ·simp at h0
      ·exact ⟨t,rfl⟩
      ·simp at h1
     subst ht;have htw := HF.out.2.1.1.head;have et : val [t] = t := by simp [val]
     have htp : 0 < t := by
      have := ziA HF.out.2.1.1 (by rw [HF.out.2.1.2];simp);omega
     obtain ⟨_,⟨_,e⟩ | ⟨g,rr,_,_,hvv,hrow⟩⟩ := OV.out
     ·cases e
     simp only [Value.slice.injEq] at hvv;obtain ⟨rfl,_,_⟩ := hvv;have cc : wr.cell? ⟨g,0,none⟩ = some (.int .u64 t) := hrow.word (xs := [t]) (i := 0) (by simp);have HW := hid (zQC OU.out.sl htw htp);have HRW := hid hrow;have z1 : ((1 : Int) == 0) = false := rfl;rw [et] at HF;obtain ⟨T,rfl⟩ := Int.eq_ofNat_of_zero_le htw.1;have hT := htw.2;unfold wB at hT;clear hrow hg z;have z : ¬ (1 : Int) < 1 := by omega
     generalize us.length = nu at *;go_wp2_with fail;refine HW.out.mono ?_;rintro e w4 ⟨qs,q,r,rfl,hoq,hcq,hrw,hlt,hv,hlq,b4⟩;have cc4 : w4.cell? ⟨g,0,none⟩ = some (.int .u64 (T : Int)) := (b4.cell (p := ⟨g,0,none⟩) HRW.out.lt).trans cc;obtain ⟨R,rfl⟩ := Int.eq_ofNat_of_zero_le hrw.1;have hR := hrw.2;unfold wB at hR;have K4 := hid (KK.out.trans (b4.mono KK.out.size));have hst := zSE (u := val us) (v := (T : Int)) (q := val qs) (r := (R : Int)) (zGA HF.out.1.1) htp hrw.1 hlt (by rw [hv,Int.mul_comm];omega);have HGD : Hid ((Nat.gcd T R : Nat) = ig (val xs) (val ys)) := by
      unfold Hid;rw [← HF.out.2.2.2,← hst];unfold ig
      simp
     have HG1 : Hid (0 < Nat.gcd T R ∧ Nat.gcd T R ≤ T) := ⟨Nat.gcd_pos_of_pos_left _ (by omega),Nat.gcd_le_left _ (by omega)⟩
     have HWG := hid (zSD (x := T) (y := R) (by omega) (by omega) w4);obtain ⟨qa,qc,rfl⟩ := hoq.form;generalize Nat.gcd T R = GG at *;clear HW hoq hcq hv hlq b4 hst cc hrw hlt HF OU;go_wp2_with fail;refine HWG.out.mono ?_;rintro e w5 ⟨rfl,b5⟩;have K5 := hid (K4.out.trans (b5.mono K4.out.size));clear HWG b5;have hgw : IsW (GG : Int) := by have := HG1.out;unfold IsW wB;omega
     go_wp2;go_ret;refine ⟨[(GG : Int)],_,rfl,⟨WF.cons hgw WF.nil,.inr ⟨w5.heap.size,[],K5.out.size,by simp,rfl,?_⟩⟩,⟨WF.cons hgw WF.nil,?_⟩,by rw [← HGD.out];simp [val],?_⟩
     ·exact heap_alloc_new w5 _
     ·have := HG1.out.1
      simp [wid];omega
     ·exact K5.out.alloc K5.out.size _
end Go.Proofs.YtffkmeocmjohmaaGreat
