/-
 QSharesToGcdParts: Shares, GcdParts, joined.
-/
import Derived.Test.YtppddlbkdoebmaaQRootAllToLehmer
import Derived.Test.YtppddlbkdoebmaaQPowerToBitStep
import Derived.Test.YtppddlbkdoebmaaQLen2ToRowsI

set_option maxRecDepth 100000
set_option maxHeartbeats 6400000
set_option linter.unusedVariables false
set_option linter.unusedSimpArgs false
namespace Go.Proofs.Ytppddlbkdoebmaa
open Go.RowKit
def Pair (w : World) (b : Nat) (p q : Int) : Prop := w.heap[b]? = some (.cells #[.int .i64 p,.int .i64 q] 90 (0,0))
theorem Pair.c0 {w : World} {b : Nat} {p q : Int} (h : Pair w b p q) : w.cell? ⟨b,0,none⟩ = some (.int .i64 p) := by unfold Pair at h;simp [World.cell?,h]
theorem Pair.c1 {w : World} {b : Nat} {p q : Int} (h : Pair w b p q) : w.cell? ⟨b,1,none⟩ = some (.int .i64 q) := by unfold Pair at h;simp [World.cell?,h]
theorem Pair.fz {w : World} {b : Nat} {p q : Int} (h : Pair w b p q) (i : Nat) : w.frozen? ⟨b,i,none⟩ = false := by unfold Pair at h;simp [World.frozen?,h]
theorem Pair.drew {w : World} {b : Nat} {p q : Int} (h : Pair w b p q) (n : Nat) : Pair (w.drewN n) b p q := h
theorem Pair.set {w : World} {b : Nat} {p q : Int} (h : Pair w b p q) (p' q' : Int) : Pair ((w.setCell ⟨b,0,none⟩ (.int .i64 p')).setCell ⟨b,1,none⟩ (.int .i64 q')) b p' q' := by
 unfold Pair at h ⊢;simp [World.setCell,Array.getElem?_modify,h]
theorem Pair.other {w : World} {b c i : Nat} {p q : Int} (h : Pair w b p q) (hc : b ≠ c) (v : Value) : Pair (w.setCell ⟨c,i,none⟩ v) b p q := by
 have o := (Only.refl c w).set i v;exact (o.2 b hc).trans h
def Shared (xh yh : Int) (w : World) (e : Ending) (w' : World) : Prop :=
 ∃ A B C D : Int,e = .returned (.tuple #[.agg #[.int .i64 A,.int .i64 B],.agg #[.int .i64 C,.int .i64 D]]) ∧ (∃ x y,zMD xh yh A B C D x y) ∧ zCE xh yh A B C D ∧ Below w.heap.size w w'
theorem zZC {W : World} {b c : Nat} {A B C D : Int} (h : Pair W b A B) (k : Pair W c C D) (tmps : Array Value) (ht : tmps[4]? = some (.pointer (some ⟨b,0,none⟩))) (ht' : tmps[5]? = some (.pointer (some ⟨c,0,none⟩))) :
  (results Try.f73 tmps).run Try.prog W = .ok (.tuple #[.agg #[.int .i64 A,.int .i64 B],.agg #[.int .i64 C,.int .i64 D]]) W := by
 simp [results,Try.results73,go_sem,ht,ht',h.c0,h.c1,k.c0,k.c1]
theorem shares_any {w : World} {xh yh : Int} (h0 : 0 ≤ xh) (h1 : xh < 1152921504606846976) (k0 : 0 ≤ yh) (k1 : yh < 1152921504606846976) :
  Calls Try.prog 73 #[.int .i64 xh,.int .i64 yh] w (Shared xh yh w) := by
 have HL0 := hid (zMD.start h0 h1 k0 k1);have HE0 := hid (zCE.start h0 k0);go_enter Try.func73,Try.ntmps73;go_wp2_with fail;have hbl : Below w.heap.size w ((w.alloc (.cells #[.int .i64 1,.int .i64 0] 90)).alloc (.cells #[.int .i64 0,.int .i64 1] 90)) := ((Below.refl _ _).alloc (Nat.le_refl _) _).alloc (by simp) _;have hp0 : Pair ((w.alloc (.cells #[.int .i64 1,.int .i64 0] 90)).alloc (.cells #[.int .i64 0,.int .i64 1] 90)) w.heap.size 1 0 := by
  unfold Pair;rw [Below.heap_alloc _ _ _ (by simp)];exact heap_alloc_new w _
 have hp1 : Pair ((w.alloc (.cells #[.int .i64 1,.int .i64 0] 90)).alloc (.cells #[.int .i64 0,.int .i64 1] 90)) (w.heap.size + 1) 0 1 := by
  unfold Pair;have := heap_alloc_new (w.alloc (.cells #[.int .i64 1,.int .i64 0] 90)) (.cells #[.int .i64 0,.int .i64 1] 90)
  simpa using this
 have HBL := hid hbl;have HP0 := hid hp0;have HP1 := hid hp1;clear hbl hp0 hp1
 go_loopg [0,1] yh.toNat (fun g s0 s1 wx => ∃ A B C D x y : Int,s0 = .int .i64 x ∧ s1 = .int .i64 y ∧ (g : Int) = y + C ∧ Hid (zMD xh yh A B C D x y) ∧ Hid (zCE xh yh A B C D) ∧ Hid (Pair wx w.heap.size A B) ∧ Hid (Pair wx (w.heap.size + 1) C D) ∧ Hid (Below w.heap.size w wx))
 case atStart => exact ⟨1,0,0,1,xh,yh,rfl,rfl,by omega,HL0,HE0,HP0,HP1,HBL⟩
 case round =>
  clear HL0 HE0 HBL HP0 HP1;obtain ⟨A,B,C,D,x,y,rfl,rfl,hg,HL,HE,PA,PB,BB⟩ := hrel;obtain ⟨⟨bA0,bA1⟩,⟨bB0,bB1⟩,⟨bC0,bC1⟩,⟨bD0,bD1⟩,⟨bx0,bx1⟩,⟨by0,by1⟩⟩ := HL.out.bounds;have cA := PA.out.c0;have cB := PA.out.c1;have cC := PB.out.c0;have cD := PB.out.c1;have fA0 := PA.out.fz 0;have fA1 := PA.out.fz 1;have fC0 := PB.out.fz 0;have fC1 := PB.out.fz 1;obtain ⟨-,-,⟨sA0,sA1⟩,⟨sB0,sB1⟩,⟨sC0,sC1⟩,⟨sD0,sD1⟩,-⟩ := HL.out
  by_cases hC : y + C = 0
  ·have z1 : (y + C != 0) = false := by simp [hC]
   clear hg;go_wp2_with fail;go_region;go_wp2;have PA2 := PA.out.set A B;have PB2 := (((PB.out.other (c := w.heap.size) (by omega) (.int .i64 A) (i := 0)).other (c := w.heap.size) (by omega) (.int .i64 B) (i := 1))).set C D;have PA3 := (PA2.other (c := w.heap.size + 1) (by omega) (.int .i64 C) (i := 0)).other (c := w.heap.size + 1) (by omega) (.int .i64 D) (i := 1);have BB2 := (((BB.out.setCell (p := ⟨w.heap.size,0,none⟩) (Nat.le_refl _) (.int .i64 A)).setCell (p := ⟨w.heap.size,1,none⟩) (Nat.le_refl _) (.int .i64 B)).setCell (p := ⟨w.heap.size + 1,0,none⟩) (Nat.le_succ _) (.int .i64 C)).setCell (p := ⟨w.heap.size + 1,1,none⟩) (Nat.le_succ _) (.int .i64 D);exact bodyPost_ret (zZC (PA3.drew 1) (PB2.drew 1) _ (by rfl) (by rfl)) rfl ⟨A,B,C,D,rfl,⟨x,y,HL.out⟩,HE.out,BB2.drew⟩
  ·have z1 : (y + C != 0) = true := by simp [hC]
   by_cases hD : y + D = 0
   ·have z2 : (y + D != 0) = false := by simp [hD]
    clear hg;go_wp2_with fail;go_region;go_wp2;have PA2 := PA.out.set A B;have PB2 := (((PB.out.other (c := w.heap.size) (by omega) (.int .i64 A) (i := 0)).other (c := w.heap.size) (by omega) (.int .i64 B) (i := 1))).set C D;have PA3 := (PA2.other (c := w.heap.size + 1) (by omega) (.int .i64 C) (i := 0)).other (c := w.heap.size + 1) (by omega) (.int .i64 D) (i := 1);have BB2 := (((BB.out.setCell (p := ⟨w.heap.size,0,none⟩) (Nat.le_refl _) (.int .i64 A)).setCell (p := ⟨w.heap.size,1,none⟩) (Nat.le_refl _) (.int .i64 B)).setCell (p := ⟨w.heap.size + 1,0,none⟩) (Nat.le_succ _) (.int .i64 C)).setCell (p := ⟨w.heap.size + 1,1,none⟩) (Nat.le_succ _) (.int .i64 D);exact bodyPost_ret (zZC (PA3.drew 1) (PB2.drew 1) _ (by rfl) (by rfl)) rfl ⟨A,B,C,D,rfl,⟨x,y,HL.out⟩,HE.out,BB2.drew⟩
   ·have z2 : (y + D != 0) = true := by simp [hD]
    obtain ⟨q,hq⟩ : ∃ q,(x + A) / (y + C) = q := ⟨_,rfl⟩
    obtain ⟨q',hq'⟩ : ∃ q',(x + B) / (y + D) = q' := ⟨_,rfl⟩
    have tq : (x + A).tdiv (y + C) = q := by rw [Int.tdiv_eq_ediv_of_nonneg sA0];exact hq
    have tq' : (x + B).tdiv (y + D) = q' := by rw [Int.tdiv_eq_ediv_of_nonneg sB0];exact hq'
    have q0 : 0 ≤ q := by rw [← hq];exact Int.ediv_nonneg sA0 sC0
    have q1 : q ≤ 1152921504606846976 := by rw [← hq];exact Int.le_trans (Int.ediv_le_self _ sA0) sA1
    have q0' : 0 ≤ q' := by rw [← hq'];exact Int.ediv_nonneg sB0 sD0
    have q1' : q' ≤ 1152921504606846976 := by rw [← hq'];exact Int.le_trans (Int.ediv_le_self _ sB0) sB1
    by_cases hqq : q = q'
    ·subst hqq
     have z3 : (q != q) = false := by simp
     obtain ⟨hn,_,l1,l2⟩ := HL.out.step (by omega) (by omega) hq hq';have HN := hid hn;have HE2 := hid (zCE.step HL.out HE.out (by omega) (by omega) hq hq');obtain ⟨-,-,⟨mC0,mC1⟩,⟨mD0,mD1⟩,-,⟨ny0,ny1⟩⟩ := hn.bounds;obtain ⟨p1,hp1⟩ : ∃ p1,q * y = p1 := ⟨_,rfl⟩
     obtain ⟨p2,hp2⟩ : ∃ p2,q * C = p2 := ⟨_,rfl⟩
     obtain ⟨p3,hp3⟩ : ∃ p3,q * D = p3 := ⟨_,rfl⟩
     rw [hp1] at ny0 ny1 l1 l2 HN;rw [hp2] at mC0 mC1 l1 HN HE2;rw [hp3] at mD0 mD1 l2 HN HE2;clear hn;go_wp2_with fail;go_region;go_wp2_with fail;have PA2 := hid (PA.out.set C D);have PB2 := hid ((((PB.out.other (c := w.heap.size) (by omega) (.int .i64 C) (i := 0)).other (c := w.heap.size) (by omega) (.int .i64 D) (i := 1))).set (A - p2) (B - p3));have PA3 := hid ((PA2.out.other (c := w.heap.size + 1) (by omega) (.int .i64 (A - p2)) (i := 0)).other (c := w.heap.size + 1) (by omega) (.int .i64 (B - p3)) (i := 1));have BB2 := hid ((((BB.out.setCell (p := ⟨w.heap.size,0,none⟩) (Nat.le_refl _) (.int .i64 C)).setCell (p := ⟨w.heap.size,1,none⟩) (Nat.le_refl _) (.int .i64 D)).setCell (p := ⟨w.heap.size + 1,0,none⟩) (Nat.le_succ _) (.int .i64 (A - p2))).setCell (p := ⟨w.heap.size + 1,1,none⟩) (Nat.le_succ _) (.int .i64 (B - p3)));have hg2 : 0 ≤ x - p1 + (A - p2) := HN.out.2.2.2.2.1.1;go_roundg (x - p1 + (A - p2)).toNat
     case rel => exact ⟨C,D,A - p2,B - p3,y,x - p1,rfl,rfl,Int.toNat_of_nonneg hg2,HN,HE2,PA3.out.drew 1,PB2.out.drew 1,BB2.out.drew⟩
     case measure => omega
    ·have z3 : (q != q') = true := by simp [hqq]
     clear hg;go_wp2_with fail;go_region;go_wp2;have PA2 := PA.out.set A B;have PB2 := (((PB.out.other (c := w.heap.size) (by omega) (.int .i64 A) (i := 0)).other (c := w.heap.size) (by omega) (.int .i64 B) (i := 1))).set C D;have PA3 := (PA2.other (c := w.heap.size + 1) (by omega) (.int .i64 C) (i := 0)).other (c := w.heap.size + 1) (by omega) (.int .i64 D) (i := 1);have BB2 := (((BB.out.setCell (p := ⟨w.heap.size,0,none⟩) (Nat.le_refl _) (.int .i64 A)).setCell (p := ⟨w.heap.size,1,none⟩) (Nat.le_refl _) (.int .i64 B)).setCell (p := ⟨w.heap.size + 1,0,none⟩) (Nat.le_succ _) (.int .i64 C)).setCell (p := ⟨w.heap.size + 1,1,none⟩) (Nat.le_succ _) (.int .i64 D);exact bodyPost_ret (zZC (PA3.drew 1) (PB2.drew 1) _ (by rfl) (by rfl)) rfl ⟨A,B,C,D,rfl,⟨x,y,HL.out⟩,HE.out,BB2.drew⟩
theorem zXD {x y : Nat} (hx : x < 18446744073709551616) (hy : y < 18446744073709551616) (w : World) :
  Calls Try.prog 57 #[.int .u64 x,.int .u64 y] w fun e w' => e = .returned (.int .u64 (Nat.gcd x y : Nat)) ∧ Below w.heap.size w w' := by
 obtain ⟨G,hG⟩ : ∃ G,Nat.gcd x y = G := ⟨_,rfl⟩
 have HG := hid hG;rw [hG];clear hG;go_enter Try.func57,Try.ntmps57;go_wp2_with fail
 go_loopw [0,1] (fun s0 s1 wx => ∃ a b nd : Nat,s0 = .int .u64 a ∧ s1 = .int .u64 b ∧ a < 18446744073709551616 ∧ b < 18446744073709551616 ∧ wx = w.drewN nd ∧ Hid (Nat.gcd a b = G)) (fun _ s1 _ => (intOf s1).toNat)
 case atStart => exact ⟨x,y,0,rfl,rfl,hx,hy,rfl,HG⟩
 case round =>
  obtain ⟨a,b,nd,rfl,rfl,ha,hb,rfl,HG2⟩ := hrel
  by_cases hb0 : b = 0
  ·subst hb0
   have z : ((0 : Int) != 0) = false := rfl;go_wp2;go_ret;refine ⟨?_,below_drewN (Below.refl _ _) nd⟩;have := HG2.out;rw [Nat.gcd_zero_right] at this;rw [← this];rfl
  ·have z : ((b : Int) != 0) = true := by rw [bne_iff_ne];omega
   have z2 : ((b : Int) == 0) = false := by rw [beq_eq_false_iff_ne];omega
   have z3 : ¬ (b : Int) = 0 := by omega
   have hm := Nat.mod_lt a (show 0 < b by omega);obtain ⟨r,hr⟩ : ∃ r,a % b = r := ⟨_,rfl⟩
   have er : (a : Int) % (b : Int) = (r : Int) := by rw [← hr];simp
   have et : (a : Int).tmod (b : Int) = (r : Int) := by rw [← hr];exact (Int.ofNat_tmod a b).symm
   have HG3 : Hid (Nat.gcd b r = G) := by unfold Hid;rw [← hr,← HG2.out,Nat.gcd_comm a b,Nat.gcd_rec b a,Nat.gcd_comm]
   rw [hr] at hm;clear HG2;go_wp2_with fail;go_quiet (fail);go_wp2_with fail;go_roundw
   case rel => exact ⟨b,r,_,rfl,rfl,hb,by omega,by first | rfl | exact World.drewN_drewN _ _ _,HG3⟩
   case measure => simp [intOf];omega
theorem ztF {w : World} {v : Value} {xs : List Int} {p : Nat} (h : Sl w.heap.size w v xs) (hp : p ≤ 9223372036854775807) (hs : vn xs / 2 ^ p < 9223372036854775808) :
  Calls Try.prog 74 #[v,.int .i64 (p : Int)] w fun e w' => e = .returned (.int .i64 ((vn xs / 2 ^ p : Nat) : Int)) ∧ Below w.heap.size w w' := by
 have HS := zQF h hp;obtain ⟨H,hH⟩ : ∃ H,vn xs / 2 ^ p = H := ⟨_,rfl⟩
 rw [hH] at HS hs;rw [hH];clear h hH;go_enter Try.func74,Try.ntmps74;go_wp2_with fail;refine HS.mono ?_;rintro e w1 ⟨zs,r,rfl,ho,hc,hv,hl,hb⟩;have HB := hid hb;clear HS hb;rcases zs with _ | ⟨t,zs'⟩
 ·obtain ⟨a,c,rfl⟩ := ho.form
  have hH0 : H = 0 := by rw [← hv];rfl
  subst hH0;have z : ((0 : Int) == 0) = true := rfl;go_wp2;go_ret;exact ⟨rfl,HB.out⟩
 ·have hz' : zs' = [] := by
   rcases zs' with _ | ⟨t2,zs2⟩
   ·rfl
   ·exfalso
    have h1 := zUD (N := zs2.length + 1) hc (by simp);have h2 : pw 1 ≤ pw (zs2.length + 1) := by
     rw [show zs2.length + 1 = 1 + zs2.length by omega,zDD];have := zhA 1;have := zhA zs2.length;have := Int.mul_le_mul_of_nonneg_left (show 1 ≤ pw zs2.length by omega) (Int.le_of_lt (zhA 1));rw [Int.mul_one] at this;exact this
    have h3 := zNA hc.1;have h4 : pw 1 = 18446744073709551616 := by simp [pw,wB]
    omega
  subst hz';have htH : t = (H : Int) := by
   have h3 := zNA hc.1;rw [hv] at h3
   simpa [val] using h3
  subst htH;obtain ⟨_,⟨_,e⟩ | ⟨g,rr,_,_,rfl,hrow⟩⟩ := ho
  ·cases e
  have c0 : w1.cell? ⟨g,0,none⟩ = some (.int .u64 (H : Int)) := hrow.word (xs := [(H : Int)]) (i := 0) (by simp);have z : ((1 : Int) == 0) = false := rfl;clear hrow;go_wp2;go_ret;exact ⟨by first | rfl | simp,HB.out⟩
end Go.Proofs.Ytppddlbkdoebmaa
