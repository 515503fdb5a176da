/-
 QSqOToStrip: SqO, Strip, joined.
-/
import Derived.Test.YtppddlbkdoebmaaQRootAllToLehmer
import Derived.Test.YtppddlbkdoebmaaQSq3
import Derived.Test.YtppddlbkdoebmaaQExact0ToRDivMod
import Derived.Test.YtppddlbkdoebmaaQMulAllToPow

set_option maxRecDepth 100000
set_option maxHeartbeats 6400000
set_option linter.unusedVariables false
set_option linter.unusedSimpArgs false
namespace Go.Proofs.Ytppddlbkdoebmaa
open Go.RowKit
theorem sqrtO_any {w : World} {va : Value} {xs : List Int} (ha : Sl w.heap.size w va xs) (lx : xs.length ≤ 1048576) : Calls Try.prog 30 #[va] w (SqD3 w (vn xs)) := by
 obtain ⟨r,hr⟩ := zOD (k := 2) (by omega) (vn xs);have HA := hid ha;have HR := hid hr;have HV := hid (zNA ha.1);have HRT := hid (zrE ha (k := 2) (by omega) (by omega) (by omega) hr);clear ha hr;go_enter Try.func30,Try.ntmps30;go_wp2_with fail;refine HRT.out.mono ?_;rintro e w1 ⟨zs,v,rfl,o1,c1,e1,b1⟩;have hrr : r * r ≤ vn xs := by
  have := HR.out.1
  rwa [Nat.pow_succ,Nat.pow_one] at this
 have hle : r ≤ vn xs := Nat.le_trans (Nat.le_mul_self r) hrr;have lz := zSA c1 (canon_lst HA.out.1) (by rw [e1,val_lst,HV.out];omega);rw [length_lst] at lz;have lw := zIA xs;have HSQ := hid (zPC o1.sl (by omega));have O1 := hid o1;have E1 := hid e1;have B1 := hid b1;have HRR := hid hrr;obtain ⟨a1,a2,rfl⟩ := o1.form;clear HRT o1 e1 b1 hrr hle;go_wp2_with fail;refine HSQ.out.mono ?_;rintro e w2 ⟨qs,vq,rfl,mq,cq,eq2,b2⟩;have B2 := hid (zAA B1.out b2);have hsq : val qs ≤ val xs := by
  rw [eq2,E1.out,HV.out,← Int.natCast_mul];have := HRR.out;omega
 have HSB := hid (zPF (HA.out.now B2.out) mq.sl hsq);have SZ2 := hid (O1.out.stay b2);have EQ2 := hid eq2;clear HSQ mq b2 eq2;go_wp2_with fail;refine HSB.out.mono ?_;rintro e w3 ⟨ls,la,lc,rfl,ol,cl,el,b3⟩;have B3 := hid (zAA B2.out b3);have SZ3 := hid (SZ2.out.stay b3);have SL3 := hid (ol.lower B2.out.size);have TW := hid (zmE SZ2.out ol (Nat.le_refl _));have EL := hid el;clear HSB ol b3 el;go_wp2;go_ret2;exact ⟨r,zs,ls,_,_,rfl,HR.out,SZ3.out,SL3.out,c1,cl,E1.out,by
  have := HRR.out;rw [EL.out,EQ2.out,E1.out,HV.out,← Int.natCast_mul];omega,TW.out,B3.out⟩
def zBE (y x : Int) : Prop := ∀ k,x ≠ y * k
theorem zeG (y : Int) : ∀ s : Nat,(y * y) ^ s = y ^ (2 * s)
 | 0 => by simp
 | s + 1 => by rw [Int.pow_succ,zeG y s,show 2 * (s + 1) = 2 * s + 1 + 1 by omega,Int.pow_succ,Int.pow_succ,Int.mul_assoc]
theorem zZE {m n : Nat} (h : m ≤ n) : pw m ≤ pw n := by
 obtain ⟨k,rfl⟩ := Nat.exists_eq_add_of_le h;rw [zDD];have h1 := zhA m;have h2 := zhA k;have := Int.mul_le_mul_of_nonneg_left (show 1 ≤ pw k by omega) (Int.le_of_lt h1);rw [Int.mul_one] at this;exact this
theorem zBF {zs : List Int} {k : Nat} (h : zFA zs) (hv : val zs < pw k) : zs.length ≤ k := by
 refine Nat.le_of_not_lt fun hlt => ?_
 obtain ⟨N,hN⟩ : ∃ N,zs.length = N + 1 := ⟨zs.length - 1,by omega⟩
 have h1 := zUD h hN;have h2 := zZE (show k ≤ N by omega);omega
theorem square_len {xs ys zs : List Int} (hx : WF xs) (hy : WF ys) (hz : zFA zs) (hle : val ys ≤ val xs) (hv : val zs = val ys * val ys) : zs.length ≤ 2 * wid xs := by
 refine zBF hz ?_;have h0 := val_nonneg hy;have h1 : val ys * val ys ≤ val xs * val xs := Int.mul_le_mul hle hle h0 (by omega);have h2 := zhB (canon_lst hx).1 (canon_lst hx).1;rw [val_lst,length_lst] at h2;rw [Nat.two_mul,hv];omega
theorem zEE {y : Int} (h : 2 ≤ y) : ∀ n : Nat,(2 : Int) ^ n ≤ y ^ n
 | 0 => by simp
 | n + 1 => by
  rw [Int.pow_succ,Int.pow_succ];have h1 := zEE h n;have h2 : (0 : Int) < 2 ^ n := Int.pow_pos (by omega);exact Int.mul_le_mul h1 h (by omega) (by omega)
theorem strip_count {xs : List Int} {y z : Int} {n : Nat} (hx : WF xs) (hy : 2 ≤ y) (hz : 0 < z) (h : val xs = y ^ n * z) : n < 64 * xs.length + 1 := by
 have h1 := zXA hx;rw [zVC] at h1;have h2 := zEE hy n;have h3 : (0 : Int) < 2 ^ n := Int.pow_pos (by omega);have h4 := Int.mul_le_mul_of_nonneg_left (show 1 ≤ z by omega) (show 0 ≤ y ^ n by omega);rw [Int.mul_one] at h4;refine Nat.lt_of_not_le fun hle => ?_
 have h5 : (2 : Int) ^ (64 * xs.length) ≤ 2 ^ n := by
  rw [zWA,zWA];have := Nat.pow_le_pow_right (n := 2) (by omega) (show 64 * xs.length ≤ n by omega);omega
 omega
def ziE (w : World) (xs ys : List Int) (e : Ending) (w' : World) : Prop :=
 ∃ (n : Nat) (zs : List Int) (r : Value),e = .returned (.tuple #[.int .i64 (n : Int),r]) ∧ Own w.heap.size w' r zs ∧ zFA zs ∧ val xs = val ys ^ n * val zs ∧ zBE (val ys) (val zs) ∧ 0 < val zs ∧ zs.length ≤ xs.length ∧ Below w.heap.size w w'
def zPG (N : Nat) : Prop := ∀ (w : World) (va vb : Value) (xs ys : List Int),Sl w.heap.size w va xs → Sl w.heap.size w vb ys → 0 < val xs → 2 ≤ val ys → xs.length ≤ 274877906944 → ys.length ≤ 549755813888 → vn xs < N → Calls Try.prog 61 #[va,vb] w (ziE w xs ys)
theorem zgG {X Y : Int} {qs rs : List Int} (hr : zFA rs) (hn : rs ≠ []) (h : X = Y * val qs + val rs) (hl : val rs < Y) : zBE Y X := fun k e => by
 have h0 := val_nonneg hr.1;obtain ⟨_,b⟩ := div_one (q' := k) (r' := 0) h (by rw [e];omega) h0 hl (Int.le_refl 0) (by omega);exact hn (zyC hr b.symm)
theorem zdG {ys : List Int} (h : 0 < val ys) : wid ys ≠ 0 := fun e => by have := zmA ys e;omega
theorem zgD {w w1 w2 : World} {v : Value} {zs : List Int} (hb : Below w.heap.size w w1) (h : Own w1.heap.size w2 v zs) : Own w.heap.size w2 v zs := h.lower hb.size
theorem strip_step {w : World} {va vb : Value} {xs ys : List Int} (ha : Sl w.heap.size w va xs) (hb : Sl w.heap.size w vb ys) (hx : 0 < val xs) (hy : 2 ≤ val ys) (lx : xs.length ≤ 274877906944) (ly : ys.length ≤ 549755813888) (IH : zPG (vn xs)) :
  Calls Try.prog 61 #[va,vb] w (ziE w xs ys) := by
 have HE := zmD ha hb (zdG (by omega)) (by omega) (by omega);have HA := hid ha;have HB := hid hb;have HIH := hid IH;clear ha hb IH;go_enter Try.func61,Try.ntmps61;go_wp2_with fail;refine HE.mono ?_;rintro e w1 ⟨qs,rs,hcq,hcr,hv,hlt,hlq,b1,hend⟩;have B1 := hid b1;have HA1 := hid (HA.out.now b1);have HB1 := hid (HB.out.now b1);clear HE b1;rcases hend with ⟨rfl,q,rfl,hoq⟩ | ⟨hrs,rfl⟩
 ·have hv0 : val xs = val ys * val qs := by rw [hv];simp [val]
  have hqp : 0 < val qs := by
   have := val_nonneg hcq.1;rcases Int.lt_or_eq_of_le this with t | t
   ·exact t
   ·rw [← t,Int.mul_zero] at hv0;omega
  have hyx : val ys ≤ val xs := by
   have := Int.mul_le_mul_of_nonneg_left (show 1 ≤ val qs by omega) (show 0 ≤ val ys by omega);rw [Int.mul_one] at this;omega
  have hqx : val qs < val xs := by
   have := Int.mul_le_mul_of_nonneg_right hy (Int.le_of_lt hqp);omega
  have HV := hid hv0;have HQ1 := hid hoq.sl;have HSQ := hid (zPC HB1.out (by omega));have hz : ((0 : Int) != 0) = false := rfl;obtain ⟨qa,qc,rfl⟩ := hoq.form;clear hoq hv hv0;go_wp2_with fail;refine HSQ.out.mono ?_;rintro e w2 ⟨bs,vb2,rfl,hm,hcb,hvb,b2⟩;have hbl := square_len HA.out.1 HB.out.1 hcb hyx hvb;have hwl := zIA xs;have hy2 : 2 ≤ val bs := by
   rw [hvb];have := Int.mul_le_mul hy hy (by omega) (by omega);omega
  have HST := hid (HIH.out w2 _ vb2 qs bs (HQ1.out.now b2) hm.sl hqp hy2 (by omega) (by omega) (by
   have a1 := zNA HA.out.1;have a2 := zNA hcq.1;omega))
  have B2 := hid (zAA B1.out b2);have HB2 := hid (HB1.out.now b2);have HVB := hid hvb;clear HSQ hm b2 hvb HA1 HB1 HQ1;go_wp2_with fail;refine HST.out.mono ?_;rintro e w3 ⟨n,ls,vl,rfl,hol,hcl,hvl,hnl,hlp,hll,b3⟩;have hn := strip_count hcq.1 hy2 hlp hvl;have HL3 := hid hol;have HEX := hid (zmD hol.sl (HB2.out.now b3) (zdG (by omega)) (by omega) (by omega));have B3 := hid (zAA B2.out b3);have B23 := hid B2.out;have HVL : Hid (val xs = val ys ^ (2 * n + 1) * val ls) := by
   unfold Hid;rw [HV.out,hvl,HVB.out,zeG,Int.pow_succ,Int.mul_comm (val ys ^ (2 * n)) (val ys),Int.mul_assoc]
  have HNL : Hid (∀ k,val ls ≠ val ys * val ys * k) := by unfold Hid;intro k;have := hnl k;rw [HVB.out] at this;exact this
  obtain ⟨la,lc,rfl⟩ := hol.form;clear HST hol b3 hvl hnl;go_wp2_with fail;refine HEX.out.mono ?_;rintro e w4 ⟨qs2,rs2,hcq2,hcr2,hv2,hlt2,hlq2,b4,hend2⟩;have B4 := hid (zAA B3.out b4);have HB4 := hid b4;clear HEX b4;rcases hend2 with ⟨rfl,q2,rfl,hoq2⟩ | ⟨hrs2,rfl⟩
  ·have hv3 : val ls = val ys * val qs2 := by rw [hv2];simp [val]
   have HO2 := hid hoq2;have HF1 : Hid (val xs = val ys ^ (2 * n + 2) * val qs2) := by
    unfold Hid;rw [HVL.out,hv3,show 2 * n + 2 = (2 * n + 1) + 1 by omega,Int.pow_succ (val ys) (2 * n + 1),Int.mul_assoc]
   have HF2 : Hid (zBE (val ys) (val qs2)) := fun k e => HNL.out k (by rw [hv3,e,Int.mul_assoc])
   have hq2p : 0 < val qs2 := by
    rcases Int.lt_or_eq_of_le (val_nonneg hcq2.1) with t | t
    ·exact t
    ·rw [← t,Int.mul_zero] at hv3;omega
   have en : ((2 * n + 2 : Nat) : Int) = 2 * (n : Int) + 2 := by omega
   have HN := hid en;obtain ⟨q2a,q2c,rfl⟩ := hoq2.form;clear hoq2 hv2 hlt2 hv3 en;go_wp2;go_ret2;exact ⟨2 * n + 2,qs2,_,by rw [HN.out];rfl,zgD B3.out HO2.out,hcq2,HF1.out,HF2.out,hq2p,by omega,B4.out⟩
  ·have hne8 : ((8 : Int) != 0) = true := rfl
   have HF2 := hid (zgG hcr2 hrs2 hv2 hlt2);have en : ((2 * n + 1 : Nat) : Int) = 2 * (n : Int) + 1 := by omega
   have HN := hid en;clear hv2 hlt2 en;go_wp2;go_ret2;exact ⟨2 * n + 1,ls,_,by rw [HN.out];rfl,(zgD B23.out HL3.out).stay HB4.out,hcl,HVL.out,HF2.out,hlp,by omega,B4.out⟩
 ·have hne8 : ((8 : Int) != 0) = true := rfl
  have HF2 := hid (zgG hcr hrs hv hlt);have HLE := hid (zHB HA1.out);have hwx := HA.out.1;clear hv hlt;go_wp2_with fail;refine HLE.out.mono ?_;rintro e w2 ⟨r,rfl,ho,b2⟩;have HO := hid ho;have B2 := hid (zAA B1.out b2);clear HLE ho b2;go_wp2;go_ret2;exact ⟨0,lst xs,r,rfl,zgD B1.out HO.out,canon_lst hwx,by rw [val_lst];simp,by rw [val_lst];exact HF2.out,by rw [val_lst];exact hx,by rw [length_lst];exact zIA xs,B2.out⟩
theorem zbF : ∀ N,zPG N
 | 0 => fun w va vb xs ys _ _ _ _ _ _ h => by omega
 | N + 1 => fun w va vb xs ys ha hb hx hy lx ly h => strip_step ha hb hx hy lx ly (fun w' va' vb' xs' ys' ha' hb' hx' hy' lx' ly' h' => zbF N w' va' vb' xs' ys' ha' hb' hx' hy' lx' ly' (by omega))
theorem strip_any {w : World} {va vb : Value} {xs ys : List Int} (ha : Sl w.heap.size w va xs) (hb : Sl w.heap.size w vb ys) (hx : 0 < val xs) (hy : 2 ≤ val ys) (lx : xs.length ≤ 274877906944) (ly : ys.length ≤ 549755813888) :
  Calls Try.prog 61 #[va,vb] w (ziE w xs ys) := zbF _ w va vb xs ys ha hb hx hy lx ly (Nat.lt_succ_self _)
def zyD (w : World) (xs ys : List Int) (e : Ending) (w' : World) : Prop :=
 ∃ (n : Nat) (zs : List Int) (r : Value),e = .returned (.tuple #[.int .i64 (n : Int),r,.int .i64 0]) ∧ Own w.heap.size w' r zs ∧ zFA zs ∧ val xs = val ys ^ n * val zs ∧ zBE (val ys) (val zs) ∧ 0 < val zs ∧ zs.length ≤ xs.length ∧ Below w.heap.size w w'
theorem zTE {v : Nat} (h : 0 < v) : bitLen v ≠ 0 := by unfold bitLen;rw [if_neg (by omega)];omega
theorem bitLen_two {v : Nat} (h : 2 ≤ v) : ¬ bitLen v < 2 := by
 unfold bitLen;rw [if_neg (by omega)];have : 1 ≤ Nat.log2 v := (Nat.le_log2 (by omega)).2 (by omega);omega
theorem bitLen_less {v : Nat} (h : v < 2) : bitLen v < 2 := by
 rcases v with _ | _ | v
 ·decide
 ·decide
 ·omega
theorem strip3_any {w : World} {va vb : Value} {xs ys : List Int} (ha : Sl w.heap.size w va xs) (hb : Sl w.heap.size w vb ys) (hx : 0 < val xs) (hy : 2 ≤ val ys) (lx : xs.length ≤ 274877906944) (ly : ys.length ≤ 549755813888) :
  Calls Try.prog 31 #[va,vb] w (zyD w xs ys) := by
 have L1 := ztA ha;have L2 := ztA hb;have b1 : bitLen (vn xs) ≠ 0 := zTE (by have := zNA ha.1;omega);have b2 : ¬ bitLen (vn ys) < 2 := bitLen_two (by have := zNA hb.1;omega);have HS := hid (strip_any ha hb hx hy lx ly);generalize bitLen (vn xs) = m at *;generalize bitLen (vn ys) = k at *;have hz : ((m : Int) == 0) = false := by rw [beq_eq_false_iff_ne];omega
 have hz2 : ¬ (k : Int) < 2 := by omega
 clear ha hb;go_enter Try.func31,Try.ntmps31;go_wp2_with fail;refine L1.mono ?_;rintro e w1 ⟨rfl,rfl⟩;go_wp2_with fail;refine L2.mono ?_;rintro e w2 ⟨rfl,rfl⟩;clear L1 L2;go_wp2_with fail;refine HS.out.mono ?_;rintro e w3 ⟨n,zs,r,rfl,ho,hc,hv,hn,hp,hl,hb⟩;have HO := hid ho;have HV := hid hv;have HB := hid hb;clear HS ho hv hb;go_wp2;go_ret3;exact ⟨n,zs,r,rfl,HO.out,hc,HV.out,hn,hp,hl,HB.out⟩
theorem strip3_not {w : World} {va vb : Value} {xs ys : List Int} (ha : Sl w.heap.size w va xs) (hb : Sl w.heap.size w vb ys) (h : val xs = 0 ∨ val ys < 2) :
  Calls Try.prog 31 #[va,vb] w fun e w' => e = .returned (.tuple #[.int .i64 0,.slice none 0 0,.int .i64 3]) ∧ w' = w := by
 have L1 := ztA ha;have L2 := ztA hb
 by_cases h0 : val xs = 0
 ·have b1 : bitLen (vn xs) = 0 := by have := zNA ha.1;rw [show vn xs = 0 by omega];rfl
  rw [b1] at L1;have hz : ((0 : Int) == 0) = true := rfl;clear L2;go_enter Try.func31,Try.ntmps31;go_wp2_with fail;refine L1.mono ?_;rintro e w1 ⟨rfl,rfl⟩;clear L1;go_wp2;go_ret3;exact ⟨rfl,rfl⟩
 ·have b1 : bitLen (vn xs) ≠ 0 := zTE (by have := zNA ha.1;have := val_nonneg ha.1;omega)
  have b2 : bitLen (vn ys) < 2 := bitLen_less (by have := zNA hb.1;omega);generalize bitLen (vn xs) = m at *;generalize bitLen (vn ys) = k at *;have hz : ((m : Int) == 0) = false := by rw [beq_eq_false_iff_ne];omega
  have hz2 : (k : Int) < 2 := by omega
  go_enter Try.func31,Try.ntmps31;go_wp2_with fail;refine L1.mono ?_;rintro e w1 ⟨rfl,rfl⟩;go_wp2_with fail;refine L2.mono ?_;rintro e w2 ⟨rfl,rfl⟩;clear L1 L2;go_wp2;go_ret3;exact ⟨rfl,rfl⟩
end Go.Proofs.Ytppddlbkdoebmaa
