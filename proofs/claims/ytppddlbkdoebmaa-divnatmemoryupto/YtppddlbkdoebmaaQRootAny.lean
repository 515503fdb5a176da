import Derived.Test.YtppddlbkdoebmaaQBitByBitToOnto
set_option maxRecDepth 100000
set_option maxHeartbeats 6400000
set_option linter.unusedVariables false
set_option linter.unusedSimpArgs false
namespace Go.Proofs.Ytppddlbkdoebmaa
open Go.RowKit
def zmG (N : Nat) : Prop := ∀ (w : World) (va : Value) (xs : List Int) (k r : Nat),Sl w.heap.size w va xs → 2 ≤ k → k < 4294967296 → vn xs ≠ 0 → xs.length ≤ 1073741824 → zlA r (vn xs) k → vn xs < N → Calls Try.prog 62 #[va,.int .i64 (k : Int)] w (zUE w.heap.size w (r : Int))
theorem zRE {zs : List Int} (h : zFA zs) {n v : Nat} (hv : val zs = (v : Int)) (hn : v < 2 ^ n) : zs.length ≤ (n + 63) / 64 := by
 refine zlB h ?_;rw [hv,zVC];have h1 : 2 ^ n ≤ 2 ^ (64 * ((n + 63) / 64)) := Nat.pow_le_pow_right (by omega) (by omega);have e : (2 : Int) ^ (64 * ((n + 63) / 64)) = ((2 ^ (64 * ((n + 63) / 64)) : Nat) : Int) := by push_cast;rfl
 rw [e];omega
theorem onto_val (W : Nat) (ts : List Int) {s : Nat} (h : val ts = ((s + 1 : Nat) : Int)) : val (List.replicate W 0 ++ ts) = (((s + 1) * 2 ^ (64 * W) : Nat) : Int) := by
 rw [zfA,zBC,List.length_replicate,h,zVC,Int.zero_add,Int.mul_comm]
 push_cast
 rfl
theorem root_step {w : World} {va : Value} {xs : List Int} {k r : Nat} (ha : Sl w.heap.size w va xs) (h2 : 2 ≤ k) (hk32 : k < 4294967296) (hne : vn xs ≠ 0) (lx : xs.length ≤ 1073741824) (hr : zlA r (vn xs) k) (IH : zmG (vn xs)) : Calls Try.prog 62 #[va,.int .i64 (k : Int)] w (zUE w.heap.size w (r : Int)) := by
 have HA := hid ha;have HR := hid hr;have HI := hid IH;have HV := hid (zNA ha.1);have HPL := hid (hr.places (by omega) hne);have HBL := hid (ztA ha);have hb0 : 0 < bitLen (vn xs) := by unfold bitLen;rw [if_neg hne];omega
 have hbl : bitLen (vn xs) ≤ 64 * xs.length := by
  unfold bitLen;rw [if_neg hne];have := (Nat.log2_lt (n := vn xs) (k := 64 * xs.length) hne).2 (zkE ha.1);omega
 have HBH := hid (zmB hne);generalize bitLen (vn xs) = b at *;have HQ : Hid (k * ((b - 1) / k) ≤ b - 1) := Nat.mul_div_le _ _;have eQ : ((b : Int) - 1) / (k : Int) = (((b - 1) / k : Nat) : Int) := by
  rw [show (b : Int) - 1 = ((b - 1 : Nat) : Int) by omega];simp
 have hQb : (b - 1) / k ≤ b - 1 := Nat.div_le_self _ _;obtain ⟨q,hq⟩ : ∃ q,(b - 1) / k = q := ⟨_,rfl⟩
 rw [hq] at HPL HQ eQ hQb;have eT : ((b : Int) - 1).tdiv (k : Int) = (q : Int) := by rw [Int.tdiv_eq_ediv_of_nonneg (by omega)];exact eQ
 have HLN := hid (zvD (x := (k : Int)) (by unfold IsW wB;omega) w);have hl64 : bitLen k ≤ 64 := by
  unfold bitLen
  split
  ·omega
  ·rename_i h0
   have := (Nat.log2_lt (n := k) (k := 64) h0).2 (by omega);omega
 rw [Int.toNat_natCast] at HLN;generalize bitLen k = l at *;have ew : IntKind.u64.wrap (k : Int) = (k : Int) := by rw [IntKind.wrap_u64];omega
 have zk : ((k : Int) == 0) = false := by rw [beq_eq_false_iff_ne];omega
 have zk2 : ¬ (k : Int) = 0 := by omega
 clear ha hr IH hq;go_enter Try.func62,Try.ntmps62;go_wp2_with fail;refine HBL.out.mono ?_;rintro e w1 ⟨rfl,rfl⟩;clear HBL;go_wp2_with fail;refine HLN.out.mono ?_;rintro e w1' ⟨rfl,rfl⟩;clear HLN;have hkq : 2 * q ≤ k * q := Nat.mul_le_mul_right _ h2;have hq2 : 2 * q ≤ b - 1 := Nat.le_trans hkq HQ.out;have hqk : k * q ≤ 68719476736 := by have := HQ.out;omega
 by_cases hW : (q : Int) + 1 - l < 128
 ·have z1 : ((q : Int) + 1 - l).tdiv 128 ≤ 0 := by
   rcases Int.le_total 0 ((q : Int) + 1 - l) with t | t
   ·rw [Int.tdiv_eq_ediv_of_nonneg t];omega
   ·have e : (q : Int) + 1 - l = -((l : Int) - q - 1) := by omega
    rw [e,Int.neg_tdiv,Int.tdiv_eq_ediv_of_nonneg (by omega)];omega
  have z2 : ((q : Int) + 1 - l) / 128 ≤ 0 := by omega
  have hLk : (q + 64) / 64 * k ≤ 8589934592 := by
   have h1 : 64 * ((q + 64) / 64) ≤ q + 64 := Nat.mul_div_le _ _;have h3 := Nat.mul_le_mul_right k h1;rw [Nat.add_mul,Nat.mul_comm q k,Nat.mul_assoc] at h3;omega
  have HBB := bitByBit_any (P := q + 1) (L := (q + 64) / 64) (n := k) (r := r) HA.out (by rw [HV.out];exact HR.out.is) HPL.out.2 (by omega) (by rw [Nat.add_sub_cancel];exact HPL.out.1) (by omega) (by omega) hLk hk32;rw [show ((q + 1 : Nat) : Int) = (q : Int) + 1 by omega] at HBB;have HBB' := hid HBB;clear HBB;go_wp2_with fail;refine HBB'.out.mono ?_;rintro e w2 ⟨zs,v,rfl,o1,c1,e1,b1⟩;have O1 := hid o1;have B1 := hid b1;clear HBB' o1 b1;go_wp2;go_ret;exact ⟨zs,v,rfl,O1.out,c1,e1,B1.out⟩
 ·obtain ⟨W,hWe⟩ : ∃ W : Nat,(q + 1 - l) / 128 = W := ⟨_,rfl⟩
  have t2 : ((q : Int) + 1 - l) / 128 = (W : Int) := by omega
  have t1 : ((q : Int) + 1 - l).tdiv 128 = (W : Int) := by rw [Int.tdiv_eq_ediv_of_nonneg (by omega)];exact t2
  have hW1 : 1 ≤ W := by omega
  have hWq : 64 * W ≤ q := by omega
  have z3 : ¬ (W : Int) ≤ 0 := by omega
  obtain ⟨m,hm⟩ : ∃ m,k * W = m := ⟨_,rfl⟩
  have em : (k : Int) * (W : Int) = (m : Int) := by rw [← hm];simp
  have hm64 : m * 64 ≤ b - 1 := by
   have h1 := Nat.mul_le_mul_left k hWq;have h3 := HQ.out;rw [Nat.mul_left_comm,hm] at h1;omega
  have hm1 : 1 ≤ m := by rw [← hm];exact Nat.mul_pos (by omega) hW1
  have es : (m : Int) * 64 = ((m * 64 : Nat) : Int) := by omega
  have hks : k * (64 * W) = m * 64 := by rw [Nat.mul_left_comm,hm,Nat.mul_comm]
  have HS := hid (zQF HA.out (n := m * 64) (by omega));obtain ⟨r',hr'⟩ := zOD (k := k) (by omega) (vn xs / 2 ^ (m * 64));have HR' := hid hr';have hU0 : vn xs / 2 ^ (m * 64) ≠ 0 := by
   have h1 : 2 ^ (m * 64) ≤ 2 ^ (b - 1) := Nat.pow_le_pow_right (by omega) hm64;have := Nat.div_pos (Nat.le_trans h1 HBH.out.1) (Nat.two_pow_pos _);omega
  have hUl : vn xs / 2 ^ (m * 64) < vn xs := Nat.div_lt_self (by omega) (Nat.one_lt_two_pow (by omega));have HUP : Hid (r < (r' + 1) * 2 ^ (64 * W)) := by
   have := HR.out.upper (s := 64 * W) (q := r') (by rw [hks];exact hr');exact this
  have HNR : Hid (r' * 2 ^ (64 * W) ≤ r) := HR.out.near (s := 64 * W) (q := r') (by rw [hks];exact hr');have HU0 := hid hU0;have HUl := hid hUl;generalize vn xs / 2 ^ (m * 64) = U at *;have es2 := hid es;rw [← es] at HS;clear hr' hU0 hUl hWe hW es hks hm;go_wp2_with fail;refine HS.out.mono ?_;rintro e w2 ⟨us,vu,rfl,ou,cu,eu,lu,b1⟩;have HRC := hid (HI.out w2 vu us k r' ou.sl h2 hk32 (by rw [eu];exact HU0.out) (by omega) (by rw [eu];exact HR'.out) (by rw [eu];exact HUl.out));obtain ⟨ua,uc,rfl⟩ := ou.form;have B1 := hid b1;have EU := hid eu;clear HS ou b1 eu;go_wp2_with fail;refine HRC.out.mono ?_;rintro e w3 ⟨ss,vs,rfl,os,cs,es3,b2⟩;have B2 := hid (zAA B1.out b2);have hr'r : r' ≤ r := by
   have := HNR.out;have h1 := Nat.mul_le_mul_left r' (Nat.two_pow_pos (64 * W));omega
  have lss := zRE cs (n := q + 1) es3 (by have := HPL.out.2;omega);have SL : Hid (Sl (w3.alloc (.cells #[.int .u64 1] 26)).heap.size (w3.alloc (.cells #[.int .u64 1] 26)) (.slice (some ⟨w3.heap.size,0,none⟩) 1 1) [1]) := zQD w3 [1] _ rfl (zCB (by omega) WF.nil) (by simp) 1 rfl;have B3 := hid (zAA B2.out ((Below.refl w3.heap.size w3).alloc (Nat.le_refl _) (.cells #[.int .u64 1] 26)));have HAD := hid (zLC (os.sl.later (.cells #[.int .u64 1] 26)) SL.out (by omega) (by simp));have ES3 := hid es3;clear HRC os b2 es3 SL hr'r;go_wp2_with fail;refine HAD.out.mono ?_;rintro e w4 ⟨ts,vt,rfl,st,ct,et,lt,b4⟩;have B4 := hid (zAA B3.out b4);have ET : Hid (val ts = ((r' + 1 : Nat) : Int)) := by unfold Hid;rw [et,ES3.out];simp [val]
  have hts : ts ≠ [] := zfE (by rw [ET.out];omega);have ST := hid st;have HXV := hid (onto_val W ts ET.out);have HXC := hid (zIC (zOC W) ct hts);have hlt : (r' + 1) * 2 ^ (64 * W) < 2 ^ (q + 2) := by
   have h1 := HNR.out;have h3 : 2 ^ (64 * W) ≤ 2 ^ q := Nat.pow_le_pow_right (by omega) hWq;have h4 := HPL.out.2;rw [Nat.add_mul,Nat.one_mul];have e1 : 2 ^ (q + 1) = 2 * 2 ^ q := by rw [Nat.pow_succ];omega
   have e2 : 2 ^ (q + 2) = 4 * 2 ^ q := by rw [Nat.pow_succ,Nat.pow_succ];omega
   omega
  have lX := zRE HXC.out HXV.out hlt;have hXk : (List.replicate W (0 : Int) ++ ts).length * (k - 1) ≤ 8589934592 := by
   have h1 : 64 * ((q + 2 + 63) / 64) ≤ q + 65 := Nat.mul_div_le _ _;have h3 := Nat.mul_le_mul_right k h1;have h5 : (List.replicate W (0 : Int) ++ ts).length * (k - 1) ≤ (q + 2 + 63) / 64 * k := Nat.mul_le_mul lX (by omega);rw [Nat.add_mul,Nat.mul_comm q k,Nat.mul_assoc] at h3;omega
  have lT : ts.length ≤ 1073741825 := by simp only [List.length_append] at lX;omega
  have lW : W ≤ 1073741825 := by omega
  have hl30 : (List.replicate W (0 : Int) ++ ts).length ≤ 1073741824 := by omega
  have HXK := hid hXk;have HL30 := hid hl30;have ek : ((k - 1 : Nat) : Int) + 1 = (k : Int) := by omega
  have hvx : (r : Int) < val (List.replicate W 0 ++ ts) := by rw [HXV.out];have := HUP.out;omega
  have HVX := hid hvx;clear HAD st b4 et hlt lX hXk hl30 hvx;go_wp2_with (at_make;refine wpList_make_words _ rfl _ _ rfl _ _ W W rfl rfl (by omega) (by omega) (Nat.le_refl _) (by omega) ?_)
  intro w5 hrow hb5 hsz5;have B5 := hid (zAA B4.out hb5);have ST5 := hid (ST.out.now hb5);clear hb5 hsz5;go_wp2_with (at_builtin;refine zdB _ rfl (.tmp 44) (.tmp 45) rfl w4.heap.size W _ (List.replicate W 0) ts rfl (zOC W) (by simp) hrow rfl ST5.out hts (by omega) ?_)
  intro vx w6 SX hb6;have B6 := hid (zAA B5.out hb6.out);have HSD := stepDown_any (B0 := w1'.heap.size) (n := k - 1) (r := (r : Int)) (HA.out.now B6.out) ⟨SX.out,fun e => by have := HVX.out;omega⟩ HXC.out (by omega) (by have := HPL.out.1;have := Nat.two_pow_pos q;omega) (by rw [Nat.sub_add_cancel (by omega),HV.out];exact HR.out.is) (Int.le_of_lt HVX.out) (by omega) HL30.out HXK.out (by omega) B6.out.size;rw [ek] at HSD;have HSD' := hid HSD;clear HSD hrow hb6;go_wp2_with fail;refine HSD'.out.mono ?_;rintro e w7 ⟨zs,v,rfl,o7,c7,e7,b7⟩;have O7 := hid o7;have B7 := hid (zAA B6.out b7);clear HSD' o7 b7;go_wp2;go_ret;exact ⟨zs,v,rfl,O7.out,c7,e7,B7.out⟩
theorem zHG : ∀ N,zmG N
 | 0 => fun _ _ _ _ _ _ _ _ _ _ _ h => absurd h (Nat.not_lt_zero _)
 | N + 1 => fun w va xs k r ha h2 h32 hne lx hr hN => root_step ha h2 h32 hne lx hr fun w va ys k' r' a1 a2 a3 a4 a5 a6 a7 => zHG N w va ys k' r' a1 a2 a3 a4 a5 a6 (by omega)
theorem root_any {w : World} {va : Value} {xs : List Int} {k r : Nat} (ha : Sl w.heap.size w va xs) (h2 : 2 ≤ k) (hk32 : k < 4294967296) (hne : vn xs ≠ 0) (lx : xs.length ≤ 1073741824) (hr : zlA r (vn xs) k) : Calls Try.prog 62 #[va,.int .i64 (k : Int)] w (zUE w.heap.size w (r : Int)) :=
 zHG (vn xs + 1) w va xs k r ha h2 hk32 hne lx hr (Nat.lt_succ_self _)
end Go.Proofs.Ytppddlbkdoebmaa
