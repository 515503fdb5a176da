/-
 QPow5ToR5Pow: Pow5, R5Pow, joined.
-/
import Derived.Test.YtkdobgbicnemcaaGreatDoorQZDivsToRowsI
import Derived.Test.YtkdobgbicnemcaaGreatDoorQRLowToPowers
import Derived.Test.YtkdobgbicnemcaaGreatDoorQZStoreToLst9
import Derived.Test.YtkdobgbicnemcaaGreatDoorQRWordsToR5Ones

set_option maxRecDepth 100000
set_option maxHeartbeats 6400000
set_option linter.unusedVariables false
set_option linter.unusedSimpArgs false
namespace Go.Proofs.YtkdobgbicnemcaaGreatDoor
open Go.RowKit
theorem zqF (x : Int) : ∀ n : Nat,(-x) ^ n = if n % 2 = 1 then -(x ^ n) else x ^ n
 | 0 => by simp
 | n + 1 => by
  rw [Int.pow_succ,zqF x n,Int.pow_succ]
  by_cases h : n % 2 = 1
  ·rw [if_pos h,if_neg (by omega),Int.neg_mul_neg]
  ·rw [if_neg h,if_pos (by omega),Int.mul_neg]
theorem pow5_z {w : World} {va : Value} {A : Int} {k n : Nat} (ha : Zi w va A k) (hk : k ≤ 2097152) (hn : n ≤ 256) :
  Calls Tryz.prog 51 #[va,.int .i64 (n : Int)] w (zMA 0 w (A ^ n) (k * n + 1)) := by
 have hkn := Nat.mul_le_mul hk hn;have HNN := hid hn;have za0 := ha;obtain ⟨na,xa,ada,ca,rfl,sa,ea,la⟩ := ha;obtain ⟨W0,hW⟩ : ∃ W0,(w.alloc (duo (.bool na) (.slice ada xa.length ca))).alloc zbox = W0 := ⟨_,rfl⟩
 obtain ⟨b0,sz0⟩ := zXA w (duo (.bool na) (.slice ada xa.length ca)) zbox;rw [hW] at b0 sz0;have Pa : Hid (Duo W0 (w.heap.size) (.bool na) (.slice ada xa.length ca)) := by unfold Hid;rw [← hW];exact zAA (zCA (by simp)) _
 have Ps : Hid (Duo W0 (w.heap.size + 1) (.bool false) (.slice none 0 0)) := by unfold Hid;rw [← hW];exact zCA (by simp)
 have Za := hid (za0.now b0);clear za0;have Sa := hid (sa.now b0);clear sa;have G := hid b0;clear b0;have EW := hid hW;clear hW;have HLK : Hid (∀ zs,zHA zs → val zs = val xa ^ n → zs.length ≤ k * n + 1) := fun zs hc hv => by
  have h2 := zgE (zEA Sa.out.1) (zUA Sa.out.1) hc hv;have h3 := Nat.mul_le_mul_right n la;omega
 have HVV : Hid (∀ zs,val zs = val xa ^ n → iv (na && decide (n % 2 = 1)) zs = A ^ n) := fun zs hv => by
  rw [← ea];cases na
  ·rw [Bool.false_and,zdB,zdB,hv]
  ·rw [Bool.true_and,zaC,zqF]
   by_cases h : n % 2 = 1
   ·rw [if_pos h,decide_eq_true h,zaC,hv]
   ·rw [if_neg h,decide_eq_false h,zdB,hv]
 have hlx := hid la;have HKK := hid hk;clear ea la hk;cases na
 ·have hb : (false && decide (n % 2 = 1)) = false := rfl
  rw [hb] at HVV;clear hb;go_enter Tryz.func51,Tryz.ntmps51;have ca0 := Pa.out.c0;have ca1 := Pa.out.c1;rw [← EW.out] at ca0 ca1;go_wp2_with fail;rw [EW.out];clear EW;clear ca0 ca1;refine (znF Sa.out (by have := hlx.out;have := HKK.out;omega) HNN.out).mono ?_;rintro e w1 ⟨zs,r,rfl,m,hc,hv,b⟩;obtain ⟨az,cz,rfl⟩ := m.form;have MS := hid m;have hlz := HLK.out zs hc hv;have EV := hid (HVV.out zs hv);have HCZ := hid hc;have lw := b.size;replace Za := hid (Za.out.now b);replace Pa := hid (Pa.out.step b);replace Ps := hid (Ps.out.step b);replace Sa := hid (Sa.out.now b);replace G := hid (below_step G.out b);have lz1 := (show Below _ _ _ from b).size;clear b m hc hv HLK HVV;have q0 : ((0 : Int) != 0) = false := rfl;have HL := hid (zbA w1 false zs.length az cz MS.out.len);have HZ := hid (ziF (n := false) MS.out HCZ.out hlz);rw [EV.out] at HZ;have hbb : (false && decide (0 < zs.length)) = false := rfl;rw [hbb] at HL HZ;clear hbb;have ca0 := Pa.out.c0;have ca1 := Pa.out.c1;go_wp2_with fail;clear ca0 ca1;refine HL.out.mono ?_;rintro e w2 ⟨rfl,b⟩;replace HZ := hid (HZ.out.now b);replace Za := hid (Za.out.now b);replace Pa := hid (Pa.out.step b);replace Ps := hid (Ps.out.step b);replace Sa := hid (Sa.out.now b);replace G := hid (below_step G.out b);have lz2 := (show Below _ _ _ from b).size;clear b HL;have cs0 := Ps.out.c0;have cs1 := Ps.out.c1;have fs0 := Ps.out.fz 0;have fs1 := Ps.out.fz 1;go_wp2;exact bodyPost_ret (zWA Tryz.results51 (Ps.out.set _ _) _ (by rfl) (by rfl)) rfl (zrA (B := W0.heap.size) (HZ.out.mono (by omega)) G.out (by omega) (by omega))
 ·by_cases hodd : n % 2 = 1
  ·have hb : (true && decide (n % 2 = 1)) = true := by rw [decide_eq_true hodd];rfl
   have hr0 : (n : Int) % 2 = 1 := by omega
   have hrm : (((n : Int) % 2) == 1) = true := by rw [hr0];rfl
   clear hr0 hodd;rw [hb] at HVV;clear hb;go_enter Tryz.func51,Tryz.ntmps51;have ca0 := Pa.out.c0;have ca1 := Pa.out.c1;rw [← EW.out] at ca0 ca1;go_wp2_with fail;rw [EW.out];clear EW;clear ca0 ca1;refine (znF Sa.out (by have := hlx.out;have := HKK.out;omega) HNN.out).mono ?_;rintro e w1 ⟨zs,r,rfl,m,hc,hv,b⟩;obtain ⟨az,cz,rfl⟩ := m.form;have MS := hid m;have hlz := HLK.out zs hc hv;have EV := hid (HVV.out zs hv);have HCZ := hid hc;have lw := b.size;replace Za := hid (Za.out.now b);replace Pa := hid (Pa.out.step b);replace Ps := hid (Ps.out.step b);replace Sa := hid (Sa.out.now b);replace G := hid (below_step G.out b);have lz1 := (show Below _ _ _ from b).size;clear b m hc hv HLK HVV;have q0 : ((0 : Int) != 0) = false := rfl;have HL := hid (zbA w1 true zs.length az cz MS.out.len);have HZ := hid (ziF (n := true) MS.out HCZ.out hlz);rw [EV.out] at HZ;have hbb : (true && decide (0 < zs.length)) = decide (0 < zs.length) := Bool.true_and _;rw [hbb] at HL HZ;clear hbb;generalize decide (0 < zs.length) = dz at HL HZ;have ca0 := Pa.out.c0;have ca1 := Pa.out.c1;go_wp2_with fail;clear ca0 ca1;refine HL.out.mono ?_;rintro e w2 ⟨rfl,b⟩;replace HZ := hid (HZ.out.now b);replace Za := hid (Za.out.now b);replace Pa := hid (Pa.out.step b);replace Ps := hid (Ps.out.step b);replace Sa := hid (Sa.out.now b);replace G := hid (below_step G.out b);have lz2 := (show Below _ _ _ from b).size;clear b HL;have cs0 := Ps.out.c0;have cs1 := Ps.out.c1;have fs0 := Ps.out.fz 0;have fs1 := Ps.out.fz 1;go_wp2;exact bodyPost_ret (zWA Tryz.results51 (Ps.out.set _ _) _ (by rfl) (by rfl)) rfl (zrA (B := W0.heap.size) (HZ.out.mono (by omega)) G.out (by omega) (by omega))
  ·have hb : (true && decide (n % 2 = 1)) = false := by rw [decide_eq_false hodd];rfl
   have hr0 : (n : Int) % 2 = 0 := by omega
   have hrm : (((n : Int) % 2) == 1) = false := by rw [hr0];rfl
   clear hr0 hodd;rw [hb] at HVV;clear hb;go_enter Tryz.func51,Tryz.ntmps51;have ca0 := Pa.out.c0;have ca1 := Pa.out.c1;rw [← EW.out] at ca0 ca1;go_wp2_with fail;rw [EW.out];clear EW;clear ca0 ca1;refine (znF Sa.out (by have := hlx.out;have := HKK.out;omega) HNN.out).mono ?_;rintro e w1 ⟨zs,r,rfl,m,hc,hv,b⟩;obtain ⟨az,cz,rfl⟩ := m.form;have MS := hid m;have hlz := HLK.out zs hc hv;have EV := hid (HVV.out zs hv);have HCZ := hid hc;have lw := b.size;replace Za := hid (Za.out.now b);replace Pa := hid (Pa.out.step b);replace Ps := hid (Ps.out.step b);replace Sa := hid (Sa.out.now b);replace G := hid (below_step G.out b);have lz1 := (show Below _ _ _ from b).size;clear b m hc hv HLK HVV;have q0 : ((0 : Int) != 0) = false := rfl;have HL := hid (zbA w1 false zs.length az cz MS.out.len);have HZ := hid (ziF (n := false) MS.out HCZ.out hlz);rw [EV.out] at HZ;have hbb : (false && decide (0 < zs.length)) = false := rfl;rw [hbb] at HL HZ;clear hbb;have ca0 := Pa.out.c0;have ca1 := Pa.out.c1;go_wp2_with fail;clear ca0 ca1;refine HL.out.mono ?_;rintro e w2 ⟨rfl,b⟩;replace HZ := hid (HZ.out.now b);replace Za := hid (Za.out.now b);replace Pa := hid (Pa.out.step b);replace Ps := hid (Ps.out.step b);replace Sa := hid (Sa.out.now b);replace G := hid (below_step G.out b);have lz2 := (show Below _ _ _ from b).size;clear b HL;have cs0 := Ps.out.c0;have cs1 := Ps.out.c1;have fs0 := Ps.out.fz 0;have fs1 := Ps.out.fz 1;go_wp2;exact bodyPost_ret (zWA Tryz.results51 (Ps.out.set _ _) _ (by rfl) (by rfl)) rfl (zrA (B := W0.heap.size) (HZ.out.mono (by omega)) G.out (by omega) (by omega))
theorem pow5_z_neg {w : World} {va : Value} {A : Int} {k : Nat} {i : Int} (ha : Zi w va A k) (hi : i < 0) :
  Calls Tryz.prog 51 #[va,.int .i64 i] w (zMA 3 w 0 0) := by
 have za0 := ha;obtain ⟨na,xa,ada,ca,rfl,-,-,-⟩ := ha;obtain ⟨W0,hW⟩ : ∃ W0,(w.alloc (duo (.bool na) (.slice ada xa.length ca))).alloc zbox = W0 := ⟨_,rfl⟩
 obtain ⟨b0,sz0⟩ := zXA w (duo (.bool na) (.slice ada xa.length ca)) zbox;rw [hW] at b0 sz0;have Pa : Hid (Duo W0 (w.heap.size) (.bool na) (.slice ada xa.length ca)) := by unfold Hid;rw [← hW];exact zAA (zCA (by simp)) _
 have Ps : Hid (Duo W0 (w.heap.size + 1) (.bool false) (.slice none 0 0)) := by unfold Hid;rw [← hW];exact zCA (by simp)
 have Za := hid (za0.now b0);clear za0;have G := hid b0;clear b0;have EW := hid hW;clear hW;go_enter Tryz.func51,Tryz.ntmps51;have q0 : ((3 : Int) != 0) = true := rfl;have ca0 := Pa.out.c0;have ca1 := Pa.out.c1;rw [← EW.out] at ca0 ca1;go_wp2_with fail;rw [EW.out];clear EW;clear ca0 ca1;refine (pow_none hi).mono ?_;rintro e w1 ⟨rfl,b⟩;replace Za := hid (Za.out.now b);replace Pa := hid (Pa.out.step b);replace Ps := hid (Ps.out.step b);replace G := hid (below_step G.out b);have lz1 := (show Below _ _ _ from b).size;clear b;have cs0 := Ps.out.c0;have cs1 := Ps.out.c1;have fs0 := Ps.out.fz 0;have fs1 := Ps.out.fz 1;go_wp2;exact bodyPost_ret (zWA Tryz.results51 (Ps.out.set _ _) _ (by rfl) (by rfl)) rfl (zrA (B := W0.heap.size) (zLA _ _ _) G.out (by omega) (by omega))
theorem pow5_z_big {w : World} {va : Value} {A : Int} {k : Nat} {i : Int} (ha : Zi w va A k) (hi : 256 < i) :
  Calls Tryz.prog 51 #[va,.int .i64 i] w (zMA 5 w 0 0) := by
 have hi0 : ¬ i < 0 := by omega
 have za0 := ha;obtain ⟨na,xa,ada,ca,rfl,-,-,-⟩ := ha;obtain ⟨W0,hW⟩ : ∃ W0,(w.alloc (duo (.bool na) (.slice ada xa.length ca))).alloc zbox = W0 := ⟨_,rfl⟩
 obtain ⟨b0,sz0⟩ := zXA w (duo (.bool na) (.slice ada xa.length ca)) zbox;rw [hW] at b0 sz0;have Pa : Hid (Duo W0 (w.heap.size) (.bool na) (.slice ada xa.length ca)) := by unfold Hid;rw [← hW];exact zAA (zCA (by simp)) _
 have Ps : Hid (Duo W0 (w.heap.size + 1) (.bool false) (.slice none 0 0)) := by unfold Hid;rw [← hW];exact zCA (by simp)
 have Za := hid (za0.now b0);clear za0;have G := hid b0;clear b0;have EW := hid hW;clear hW;go_enter Tryz.func51,Tryz.ntmps51;have q0 : ((5 : Int) != 0) = true := rfl;have ca0 := Pa.out.c0;have ca1 := Pa.out.c1;rw [← EW.out] at ca0 ca1;go_wp2_with fail;rw [EW.out];clear EW;clear ca0 ca1;refine (pow_over hi).mono ?_;rintro e w1 ⟨rfl,b⟩;replace Za := hid (Za.out.now b);replace Pa := hid (Pa.out.step b);replace Ps := hid (Ps.out.step b);replace G := hid (below_step G.out b);have lz1 := (show Below _ _ _ from b).size;clear b;have cs0 := Ps.out.c0;have cs1 := Ps.out.c1;have fs0 := Ps.out.fz 0;have fs1 := Ps.out.fz 1;go_wp2;exact bodyPost_ret (zWA Tryz.results51 (Ps.out.set _ _) _ (by rfl) (by rfl)) rfl (zrA (B := W0.heap.size) (zLA _ _ _) G.out (by omega) (by omega))
theorem rneg_z {w : World} {va : Value} {A : Int} {ka : Nat} (ha : Zi w va A ka) (hk : ka ≤ 1099511627776) :
  Calls Tryz.prog 28 #[va] w (zOA w (-A) ka) := by
 have za0 := ha;obtain ⟨na,xa,aa,ca,rfl,sa,ea,la⟩ := ha;obtain ⟨W0,hW0⟩ : ∃ W0,(w.alloc (duo (.bool na) (.slice aa xa.length ca))).alloc zbox = W0 := ⟨_,rfl⟩
 obtain ⟨b0,sz0⟩ := zXA w (duo (.bool na) (.slice aa xa.length ca)) zbox;rw [hW0] at b0 sz0;have pa : Duo W0 (w.heap.size) (.bool na) (.slice aa xa.length ca) := by rw [← hW0];exact zAA (zCA (by simp)) _
 have r0 : Duo W0 (w.heap.size + 1) (.bool false) (.slice none 0 0) := by rw [← hW0];exact zCA (by simp)
 have Pa := hid pa;have ia0 := pa.c0;have ia1 := pa.c1;have Za := hid (za0.now b0);have Sa := hid (sa.now b0);have R0 := hid r0;have EW := hid hW0;have G := hid b0;clear b0 hW0 za0 sa pa r0;have EV : Hid (iv (!na) xa = (-A)) := by
  unfold Hid;have hx := Sa.out.1;rw [zLH,ea]
 clear ea;have HL : Hid (Calls Tryz.prog 61 #[.bool (!na),.slice aa xa.length ca] W0 (zOA W0 (-A) xa.length)) := by
  unfold Hid;have q := znB (n := (!na)) Sa.out (by omega);rw [EV.out] at q;exact q
 clear EV;go_enter Tryz.func28,Tryz.ntmps28;go_wp2_with fail;rw [EW.out];clear ia0 ia1;refine (HL.out).mono ?_;rintro e w1 ⟨r,rfl,m1,b⟩;obtain ⟨n1,x1,a1,q1,rfl,-,-,-,-,-⟩ := id m1;replace R0 := hid (R0.out.step b);replace G := hid (below_step G.out b);have Z1 := hid (m1.more la);clear b m1;have y00 := R0.out.c0;have y01 := R0.out.c1;have f00 := R0.out.fz 0;have f01 := R0.out.fz 1;go_wp2;exact bodyPost_ret (zBB Tryz.results28 (R0.out.set _ _) _ (by rfl)) rfl (zWB (B := W0.heap.size) Z1.out G.out (by omega) (by omega))
theorem rpow5_z {w : World} {va : Value} {A : Int} {k n : Nat} (ha : Zi w va A k) (hk : k ≤ 2097152) (hn : n ≤ 256) :
  Calls Tryz.prog 36 #[va,.int .i64 (n : Int)] w (zMA 0 w (A ^ n) (k * n + 1)) := by
 have hkn := Nat.mul_le_mul hk hn;have HNN := hid hn;have za0 := ha;obtain ⟨na,xa,ada,ca,rfl,sa,ea,la⟩ := ha;obtain ⟨W0,hW⟩ : ∃ W0,(w.alloc (duo (.bool na) (.slice ada xa.length ca))).alloc zbox = W0 := ⟨_,rfl⟩
 obtain ⟨b0,sz0⟩ := zXA w (duo (.bool na) (.slice ada xa.length ca)) zbox;rw [hW] at b0 sz0;have Pa : Hid (Duo W0 (w.heap.size) (.bool na) (.slice ada xa.length ca)) := by unfold Hid;rw [← hW];exact zAA (zCA (by simp)) _
 have Ps : Hid (Duo W0 (w.heap.size + 1) (.bool false) (.slice none 0 0)) := by unfold Hid;rw [← hW];exact zCA (by simp)
 have Za := hid (za0.now b0);clear za0;have Sa := hid (sa.now b0);clear sa;have G := hid b0;clear b0;have EW := hid hW;clear hW;have HLK : Hid (∀ zs,zHA zs → val zs = val xa ^ n → zs.length ≤ k * n + 1) := fun zs hc hv => by
  have h2 := zgE (zEA Sa.out.1) (zUA Sa.out.1) hc hv;have h3 := Nat.mul_le_mul_right n la;omega
 have HVV : Hid (∀ zs,val zs = val xa ^ n → iv (na && decide (n % 2 = 1)) zs = A ^ n) := fun zs hv => by
  rw [← ea];cases na
  ·rw [Bool.false_and,zdB,zdB,hv]
  ·rw [Bool.true_and,zaC,zqF]
   by_cases h : n % 2 = 1
   ·rw [if_pos h,decide_eq_true h,zaC,hv]
   ·rw [if_neg h,decide_eq_false h,zdB,hv]
 have hlx := hid la;have HKK := hid hk;clear ea la hk;cases na
 ·have hb : (false && decide (n % 2 = 1)) = false := rfl
  rw [hb] at HVV;clear hb;go_enter Tryz.func36,Tryz.ntmps36;have ca0 := Pa.out.c0;have ca1 := Pa.out.c1;rw [← EW.out] at ca0 ca1;go_wp2_with fail;rw [EW.out];clear EW;clear ca0 ca1;refine (zcE Sa.out (by have := hlx.out;have := HKK.out;omega) HNN.out).mono ?_;rintro e w1 ⟨zs,r,rfl,m,hc,hv,b⟩;obtain ⟨az,cz,rfl⟩ := m.form;have MS := hid m.sl;have hlz := HLK.out zs hc hv;have EV := hid (HVV.out zs hv);have HCZ := hid hc;have lw := b.size;replace Za := hid (Za.out.now b);replace Pa := hid (Pa.out.step b);replace Ps := hid (Ps.out.step b);replace Sa := hid (Sa.out.now b);replace G := hid (below_step G.out b);have lz1 := (show Below _ _ _ from b).size;clear b m hc hv HLK HVV;have HL := hid (znB (n := false) MS.out (by omega));rw [EV.out] at HL;have ca0 := Pa.out.c0;have ca1 := Pa.out.c1;go_wp2_with fail;clear ca0 ca1;refine (HL.out).mono ?_;rintro e w2 ⟨r0,rfl,m0,b⟩;obtain ⟨ny,xy,ady,qy,rfl,-,-,-,-,-⟩ := id m0;replace Za := hid (Za.out.now b);replace Pa := hid (Pa.out.step b);replace Ps := hid (Ps.out.step b);replace Sa := hid (Sa.out.now b);replace G := hid (below_step G.out b);have lz3 := (show Below _ _ _ from b).size;have Zy := hid m0;clear b m0;have cs0 := Ps.out.c0;have cs1 := Ps.out.c1;have fs0 := Ps.out.fz 0;have fs1 := Ps.out.fz 1;go_wp2;exact bodyPost_ret (zWA Tryz.results36 (Ps.out.set _ _) _ (by rfl) (by rfl)) rfl (zrA (B := W0.heap.size) ((Zy.out.mono (by omega)).more (by omega)) G.out (by omega) (by omega))
 ·by_cases hodd : n % 2 = 1
  ·have hb : (true && decide (n % 2 = 1)) = true := by rw [decide_eq_true hodd];rfl
   have hr0 : (n : Int) % 2 = 1 := by omega
   have hrm : (((n : Int) % 2) == 1) = true := by rw [hr0];rfl
   clear hr0 hodd;rw [hb] at HVV;clear hb;go_enter Tryz.func36,Tryz.ntmps36;have ca0 := Pa.out.c0;have ca1 := Pa.out.c1;rw [← EW.out] at ca0 ca1;go_wp2_with fail;rw [EW.out];clear EW;clear ca0 ca1;refine (zcE Sa.out (by have := hlx.out;have := HKK.out;omega) HNN.out).mono ?_;rintro e w1 ⟨zs,r,rfl,m,hc,hv,b⟩;obtain ⟨az,cz,rfl⟩ := m.form;have MS := hid m.sl;have hlz := HLK.out zs hc hv;have EV := hid (HVV.out zs hv);have HCZ := hid hc;have lw := b.size;replace Za := hid (Za.out.now b);replace Pa := hid (Pa.out.step b);replace Ps := hid (Ps.out.step b);replace Sa := hid (Sa.out.now b);replace G := hid (below_step G.out b);have lz1 := (show Below _ _ _ from b).size;clear b m hc hv HLK HVV;have HL := hid (znB (n := true) MS.out (by omega));rw [EV.out] at HL;have ca0 := Pa.out.c0;have ca1 := Pa.out.c1;go_wp2_with fail;clear ca0 ca1;refine (HL.out).mono ?_;rintro e w2 ⟨r0,rfl,m0,b⟩;obtain ⟨ny,xy,ady,qy,rfl,-,-,-,-,-⟩ := id m0;replace Za := hid (Za.out.now b);replace Pa := hid (Pa.out.step b);replace Ps := hid (Ps.out.step b);replace Sa := hid (Sa.out.now b);replace G := hid (below_step G.out b);have lz3 := (show Below _ _ _ from b).size;have Zy := hid m0;clear b m0;have cs0 := Ps.out.c0;have cs1 := Ps.out.c1;have fs0 := Ps.out.fz 0;have fs1 := Ps.out.fz 1;go_wp2;exact bodyPost_ret (zWA Tryz.results36 (Ps.out.set _ _) _ (by rfl) (by rfl)) rfl (zrA (B := W0.heap.size) ((Zy.out.mono (by omega)).more (by omega)) G.out (by omega) (by omega))
  ·have hb : (true && decide (n % 2 = 1)) = false := by rw [decide_eq_false hodd];rfl
   have hr0 : (n : Int) % 2 = 0 := by omega
   have hrm : (((n : Int) % 2) == 1) = false := by rw [hr0];rfl
   clear hr0 hodd;rw [hb] at HVV;clear hb;go_enter Tryz.func36,Tryz.ntmps36;have ca0 := Pa.out.c0;have ca1 := Pa.out.c1;rw [← EW.out] at ca0 ca1;go_wp2_with fail;rw [EW.out];clear EW;clear ca0 ca1;refine (zcE Sa.out (by have := hlx.out;have := HKK.out;omega) HNN.out).mono ?_;rintro e w1 ⟨zs,r,rfl,m,hc,hv,b⟩;obtain ⟨az,cz,rfl⟩ := m.form;have MS := hid m.sl;have hlz := HLK.out zs hc hv;have EV := hid (HVV.out zs hv);have HCZ := hid hc;have lw := b.size;replace Za := hid (Za.out.now b);replace Pa := hid (Pa.out.step b);replace Ps := hid (Ps.out.step b);replace Sa := hid (Sa.out.now b);replace G := hid (below_step G.out b);have lz1 := (show Below _ _ _ from b).size;clear b m hc hv HLK HVV;have HL := hid (znB (n := false) MS.out (by omega));rw [EV.out] at HL;have ca0 := Pa.out.c0;have ca1 := Pa.out.c1;go_wp2_with fail;clear ca0 ca1;refine (HL.out).mono ?_;rintro e w2 ⟨r0,rfl,m0,b⟩;obtain ⟨ny,xy,ady,qy,rfl,-,-,-,-,-⟩ := id m0;replace Za := hid (Za.out.now b);replace Pa := hid (Pa.out.step b);replace Ps := hid (Ps.out.step b);replace Sa := hid (Sa.out.now b);replace G := hid (below_step G.out b);have lz3 := (show Below _ _ _ from b).size;have Zy := hid m0;clear b m0;have cs0 := Ps.out.c0;have cs1 := Ps.out.c1;have fs0 := Ps.out.fz 0;have fs1 := Ps.out.fz 1;go_wp2;exact bodyPost_ret (zWA Tryz.results36 (Ps.out.set _ _) _ (by rfl) (by rfl)) rfl (zrA (B := W0.heap.size) ((Zy.out.mono (by omega)).more (by omega)) G.out (by omega) (by omega))
theorem rpow5_z_neg {w : World} {va : Value} {A : Int} {k : Nat} {i : Int} (ha : Zi w va A k) (hi : i < 0) :
  Calls Tryz.prog 36 #[va,.int .i64 i] w (zMA 3 w 0 0) := by
 have za0 := ha;obtain ⟨na,xa,ada,ca,rfl,-,-,-⟩ := ha;obtain ⟨W0,hW⟩ : ∃ W0,(w.alloc (duo (.bool na) (.slice ada xa.length ca))).alloc zbox = W0 := ⟨_,rfl⟩
 obtain ⟨b0,sz0⟩ := zXA w (duo (.bool na) (.slice ada xa.length ca)) zbox;rw [hW] at b0 sz0;have Pa : Hid (Duo W0 (w.heap.size) (.bool na) (.slice ada xa.length ca)) := by unfold Hid;rw [← hW];exact zAA (zCA (by simp)) _
 have Ps : Hid (Duo W0 (w.heap.size + 1) (.bool false) (.slice none 0 0)) := by unfold Hid;rw [← hW];exact zCA (by simp)
 have Za := hid (za0.now b0);clear za0;have G := hid b0;clear b0;have EW := hid hW;clear hW;go_enter Tryz.func36,Tryz.ntmps36;have cs0 := Ps.out.c0;have cs1 := Ps.out.c1;have fs0 := Ps.out.fz 0;have fs1 := Ps.out.fz 1;rw [← EW.out] at cs0 cs1 fs0 fs1;go_wp2_with fail;rw [EW.out];exact bodyPost_ret (zWA Tryz.results36 Ps.out _ (by rfl) (by rfl)) rfl ⟨_,rfl,zLA _ _ _,G.out⟩
theorem rpow5_z_big {w : World} {va : Value} {A : Int} {k : Nat} {i : Int} (ha : Zi w va A k) (hi : 256 < i) :
  Calls Tryz.prog 36 #[va,.int .i64 i] w (zMA 5 w 0 0) := by
 have hi0 : ¬ i < 0 := by omega
 have za0 := ha;obtain ⟨na,xa,ada,ca,rfl,-,-,-⟩ := ha;obtain ⟨W0,hW⟩ : ∃ W0,(w.alloc (duo (.bool na) (.slice ada xa.length ca))).alloc zbox = W0 := ⟨_,rfl⟩
 obtain ⟨b0,sz0⟩ := zXA w (duo (.bool na) (.slice ada xa.length ca)) zbox;rw [hW] at b0 sz0;have Pa : Hid (Duo W0 (w.heap.size) (.bool na) (.slice ada xa.length ca)) := by unfold Hid;rw [← hW];exact zAA (zCA (by simp)) _
 have Ps : Hid (Duo W0 (w.heap.size + 1) (.bool false) (.slice none 0 0)) := by unfold Hid;rw [← hW];exact zCA (by simp)
 have Za := hid (za0.now b0);clear za0;have G := hid b0;clear b0;have EW := hid hW;clear hW;go_enter Tryz.func36,Tryz.ntmps36;have cs0 := Ps.out.c0;have cs1 := Ps.out.c1;have fs0 := Ps.out.fz 0;have fs1 := Ps.out.fz 1;rw [← EW.out] at cs0 cs1 fs0 fs1;go_wp2_with fail;rw [EW.out];exact bodyPost_ret (zWA Tryz.results36 Ps.out _ (by rfl) (by rfl)) rfl ⟨_,rfl,zLA _ _ _,G.out⟩
end Go.Proofs.YtkdobgbicnemcaaGreatDoor
