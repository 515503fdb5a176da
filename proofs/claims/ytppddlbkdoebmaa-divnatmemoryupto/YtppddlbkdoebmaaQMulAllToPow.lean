/-
 QMulAllToPow: MulAll, Square, Fresh, Pow, joined.
-/
import Derived.Test.YtppddlbkdoebmaaQMul
import Derived.Test.YtppddlbkdoebmaaQRight3ToTrim
import Derived.Laws.AppendOwn
import Derived.Laws.AppendOwnNone

set_option maxRecDepth 100000
set_option maxHeartbeats 6400000
set_option linter.unusedVariables false
set_option linter.unusedSimpArgs false
namespace Go.Proofs.Ytppddlbkdoebmaa
open Go.RowKit
theorem zYF.less {M N : Nat} (h : zYF N) (hM : M ≤ N) : zYF M := fun w v u xs ys h1 h2 h3 h4 => h w v u xs ys h1 h2 h3 (by omega)
theorem zMB.as {w w' : World} {s t : Int} {e : Ending} (h : zMB w s e w') (hst : s = t) : zMB w t e w' := by subst hst;exact h
theorem mul_step {w : World} {va vb : Value} {xs ys : List Int} (ha : Sl w.heap.size w va xs) (hb : Sl w.heap.size w vb ys) (hl : xs.length + ys.length ≤ 35184372088832) (IH : zYF (xs.length + ys.length)) :
  Calls Try.prog 77 #[va,vb] w (zMB w (val xs * val ys)) := by
 obtain ⟨a,ca,rfl⟩ : ∃ a ca,va = .slice a xs.length ca := by obtain ⟨_,a,ca,e,_⟩ := ha;exact ⟨a,ca,e⟩
 obtain ⟨b,cb,rfl⟩ : ∃ b cb,vb = .slice b ys.length cb := by obtain ⟨_,b,cb,e,_⟩ := hb;exact ⟨b,cb,e⟩
 have HT1 := hid (zTB ha);have HT2 := hid (zTB hb);have l1 := zIA xs;have l2 := zIA ys;have SX := hid (ha.taken l1);have SY := hid (hb.taken l2)
 change Hid (Sl w.heap.size w _ (lst xs)) at SX
 change Hid (Sl w.heap.size w _ (lst ys)) at SY
 have CX := hid (canon_lst ha.1);have CY := hid (canon_lst hb.1);have LX := hid (length_lst xs);have LY := hid (length_lst ys);have IH' := hid (IH.less (show wid xs + wid ys ≤ xs.length + ys.length by omega));rw [← val_lst xs,← val_lst ys];have hl2 : wid xs + wid ys ≤ 35184372088832 := by omega
 generalize lst xs = X at *;generalize lst ys = Y at *;generalize wid xs = n at *;generalize wid ys = m at *;clear IH ha hb hl
 by_cases hlt : n < m
 ·skip
  have hh : ((m : Int) + 1) / 2 = (((m + 1) / 2 : Nat) : Int) := by omega
  have hg1 : 2 * ((m + 1) / 2) ≤ m + 1 ∧ m ≤ 2 * ((m + 1) / 2) := by omega
  generalize (m + 1) / 2 = h at *
  by_cases h0 : n = 0
  ·have hz : ((n : Int) == 0) = true := by rw [beq_iff_eq];omega
   go_enter Try.func77,Try.ntmps77;go_wp2_with fail;refine HT1.out.mono ?_;rintro e w1 ⟨rfl,rfl⟩;go_wp2_with fail;refine HT2.out.mono ?_;rintro e w1 ⟨rfl,rfl⟩;have h00 := hid h0;clear h0;go_wp2;go_ret;refine ⟨[],_,rfl,Mine.nil _ _,canon_nil,?_,Below.refl _ _⟩;have e0 : X = [] := List.eq_nil_of_length_eq_zero (by rw [LX.out];exact h00.out);rw [e0];simp [val]
  ·have hz : ((n : Int) == 0) = false := by rw [beq_eq_false_iff_ne];omega
   have hne : Hid (X ≠ []) := by intro q;have := LX.out;rw [q] at this;simp at this;omega
   by_cases h64 : n < 64
   ·skip
    go_enter Try.func77,Try.ntmps77;go_wp2_with fail;refine HT1.out.mono ?_;rintro e w1 ⟨rfl,rfl⟩;go_wp2_with fail;refine HT2.out.mono ?_;rintro e w1 ⟨rfl,rfl⟩;go_wp2_with fail;refine (byWord_any SY.out SX.out (by rw [LY.out,LX.out];omega)).mono ?_;rintro e w2 hm;obtain ⟨zs,r,rfl,m1,m2,m3,m4⟩ := hm;go_wp2;go_ret;exact zMB.as ⟨zs,r,rfl,m1,m2,m3,m4⟩ (Int.mul_comm _ _)
   ·by_cases hle : n ≤ h
    ·skip
     go_enter Try.func77,Try.ntmps77;go_wp2_with fail;refine HT1.out.mono ?_;rintro e w1 ⟨rfl,rfl⟩;go_wp2_with fail;refine HT2.out.mono ?_;rintro e w1 ⟨rfl,rfl⟩;go_wp2_with fail;refine (byTwo_any SY.out SX.out CY.out CX.out (by rw [LY.out,LX.out];omega) (by omega) (by rw [LY.out];omega) hne.out (IH'.out.less (by rw [LY.out,LX.out];omega))).mono ?_;rintro e w2 hm;obtain ⟨zs,r,rfl,m1,m2,m3,m4⟩ := hm;go_wp2;go_ret;exact zMB.as ⟨zs,r,rfl,m1,m2,m3,m4⟩ (Int.mul_comm _ _)
    ·skip
     go_enter Try.func77,Try.ntmps77;go_wp2_with fail;refine HT1.out.mono ?_;rintro e w1 ⟨rfl,rfl⟩;go_wp2_with fail;refine HT2.out.mono ?_;rintro e w1 ⟨rfl,rfl⟩;go_wp2_with fail;refine (byFour_any SY.out SX.out CY.out CX.out (by rw [LY.out,LX.out];omega) (by omega) (by rw [LY.out];omega) (by rw [LX.out];omega) (by rw [LY.out];omega) (by rw [LY.out];omega) (by rw [LX.out];omega) (by rw [LX.out,LY.out];omega) (IH'.out.less (by rw [LY.out,LX.out];omega))).mono ?_;rintro e w2 hm;obtain ⟨zs,r,rfl,m1,m2,m3,m4⟩ := hm;go_wp2;go_ret;exact zMB.as ⟨zs,r,rfl,m1,m2,m3,m4⟩ (Int.mul_comm _ _)
 ·skip
  have hh : ((n : Int) + 1) / 2 = (((n + 1) / 2 : Nat) : Int) := by omega
  have hg1 : 2 * ((n + 1) / 2) ≤ n + 1 ∧ n ≤ 2 * ((n + 1) / 2) := by omega
  generalize (n + 1) / 2 = h at *
  by_cases h0 : m = 0
  ·have hz : ((m : Int) == 0) = true := by rw [beq_iff_eq];omega
   go_enter Try.func77,Try.ntmps77;go_wp2_with fail;refine HT1.out.mono ?_;rintro e w1 ⟨rfl,rfl⟩;go_wp2_with fail;refine HT2.out.mono ?_;rintro e w1 ⟨rfl,rfl⟩;have h00 := hid h0;clear h0;go_wp2;go_ret;refine ⟨[],_,rfl,Mine.nil _ _,canon_nil,?_,Below.refl _ _⟩;have e0 : Y = [] := List.eq_nil_of_length_eq_zero (by rw [LY.out];exact h00.out);rw [e0];simp [val]
  ·have hz : ((m : Int) == 0) = false := by rw [beq_eq_false_iff_ne];omega
   have hne : Hid (Y ≠ []) := by intro q;have := LY.out;rw [q] at this;simp at this;omega
   by_cases h64 : m < 64
   ·skip
    go_enter Try.func77,Try.ntmps77;go_wp2_with fail;refine HT1.out.mono ?_;rintro e w1 ⟨rfl,rfl⟩;go_wp2_with fail;refine HT2.out.mono ?_;rintro e w1 ⟨rfl,rfl⟩;go_wp2_with fail;refine (byWord_any SX.out SY.out (by rw [LX.out,LY.out];omega)).mono ?_;rintro e w2 hm;obtain ⟨zs,r,rfl,m1,m2,m3,m4⟩ := hm;go_wp2;go_ret;exact zMB.as ⟨zs,r,rfl,m1,m2,m3,m4⟩ (rfl)
   ·by_cases hle : m ≤ h
    ·skip
     go_enter Try.func77,Try.ntmps77;go_wp2_with fail;refine HT1.out.mono ?_;rintro e w1 ⟨rfl,rfl⟩;go_wp2_with fail;refine HT2.out.mono ?_;rintro e w1 ⟨rfl,rfl⟩;go_wp2_with fail;refine (byTwo_any SX.out SY.out CX.out CY.out (by rw [LX.out,LY.out];omega) (by omega) (by rw [LX.out];omega) hne.out (IH'.out.less (by rw [LX.out,LY.out];exact Nat.le_refl _))).mono ?_;rintro e w2 hm;obtain ⟨zs,r,rfl,m1,m2,m3,m4⟩ := hm;go_wp2;go_ret;exact zMB.as ⟨zs,r,rfl,m1,m2,m3,m4⟩ (rfl)
    ·skip
     go_enter Try.func77,Try.ntmps77;go_wp2_with fail;refine HT1.out.mono ?_;rintro e w1 ⟨rfl,rfl⟩;go_wp2_with fail;refine HT2.out.mono ?_;rintro e w1 ⟨rfl,rfl⟩;go_wp2_with fail;refine (byFour_any SX.out SY.out CX.out CY.out (by rw [LX.out,LY.out];omega) (by omega) (by rw [LX.out];omega) (by rw [LY.out];omega) (by rw [LX.out];omega) (by rw [LX.out];omega) (by rw [LY.out];omega) (by rw [LY.out,LX.out];omega) (IH'.out.less (by rw [LX.out,LY.out];exact Nat.le_refl _))).mono ?_;rintro e w2 hm;obtain ⟨zs,r,rfl,m1,m2,m3,m4⟩ := hm;go_wp2;go_ret;exact zMB.as ⟨zs,r,rfl,m1,m2,m3,m4⟩ (rfl)
theorem zhG : ∀ N,zYF N
 | 0 => fun w v u xs ys _ _ _ h => absurd h (Nat.not_lt_zero _)
 | N + 1 => fun w v u xs ys h1 h2 h3 h4 => mul_step h1 h2 h3 ((zhG N).less (by omega))
theorem zRF {w : World} {va vb : Value} {xs ys : List Int} (ha : Sl w.heap.size w va xs) (hb : Sl w.heap.size w vb ys) (hl : xs.length + ys.length ≤ 35184372088832) :
  Calls Try.prog 77 #[va,vb] w (zMB w (val xs * val ys)) := zhG _ w va vb xs ys ha hb hl (Nat.lt_succ_self _)
theorem zPC {w : World} {va : Value} {xs : List Int} (ha : Sl w.heap.size w va xs) (hl : xs.length + xs.length ≤ 35184372088832) :
  Calls Try.prog 59 #[va] w (zMB w (val xs * val xs)) := by
 have HM := hid (zRF ha ha hl);clear ha;go_enter Try.func59,Try.ntmps59;go_wp2_with fail;refine HM.out.mono ?_;rintro e w1 ⟨zs,r,rfl,m1,m2,m3,m4⟩;go_wp2;go_ret;exact ⟨zs,r,rfl,m1,m2,m3,m4⟩

theorem zwE {X : Int} {L : Nat} (h0 : 0 ≤ X) (h : X < pw L) : ∀ e : Nat,0 ≤ X ^ e ∧ X ^ e ≤ pw (L * e)
 | 0 => by simp [pw]
 | e + 1 => by
  obtain ⟨h1,h2⟩ := zwE h0 h e;rw [Int.pow_succ,Nat.mul_add,zvC,Nat.mul_one];exact ⟨Int.mul_nonneg h1 h0,Int.mul_le_mul h2 (Int.le_of_lt h) h0 (Int.le_of_lt (zhA _))⟩
theorem zeD {X : Int} {L e : Nat} {zs : List Int} (h0 : 0 ≤ X) (h : X < pw L) (hz : zFA zs) (hv : val zs = X ^ e) : zs.length ≤ L * e + 1 := by
 refine zlB hz ?_;have h1 := (zwE h0 h e).2;have h2 := zhA (L * e);rw [hv,pw];unfold wB;omega
theorem bits_and_i64 (a b : Nat) (ha : a < 9223372036854775808) (hb : b < 9223372036854775808) : bits .and .i64 (a : Int) (b : Int) = ((a &&& b : Nat) : Int) := by
 have hx : a &&& b ≤ a := Nat.and_le_left;have h1 : (BitVec.ofInt 64 (a : Int)).toNat = a := by
  rw [BitVec.ofInt_natCast,BitVec.toNat_ofNat];exact Nat.mod_eq_of_lt (by omega)
 have h2 : (BitVec.ofInt 64 (b : Int)).toNat = b := by
  rw [BitVec.ofInt_natCast,BitVec.toNat_ofNat];exact Nat.mod_eq_of_lt (by omega)
 show IntKind.i64.wrap ((BitVec.ofInt 64 (a : Int) &&& BitVec.ofInt 64 (b : Int)).toNat : Int) = _
 rw [BitVec.toNat_and,h1,h2,IntKind.wrap_i64];omega
theorem bit_i64 (n k : Nat) (hn : n ≤ 256) : bits BinOp.and IntKind.i64 ((n : Int) / 2 ^ k) 1 = ((n / 2 ^ k % 2 : Nat) : Int) := by
 have e : (n : Int) / 2 ^ k = ((n / 2 ^ k : Nat) : Int) := by simp
 have hd : n / 2 ^ k ≤ n := Nat.div_le_self _ _;rw [e,show (1 : Int) = ((1 : Nat) : Int) from rfl,bits_and_i64 _ 1 (by omega) (by omega),Nat.and_one_is_mod]
theorem zvD {x : Int} (hx : IsW x) (w : World) : Calls Try.prog 78 #[.int .u64 x] w fun e w' => e = .returned (.int .i64 (bitLen x.toNat : Int)) ∧ w' = w := by
 have HL := hid (ziD hx w);go_enter Try.func78,Try.ntmps78;go_wp2_with fail;refine HL.out.mono ?_;rintro e w1 ⟨rfl,rfl⟩;go_wp2;go_ret;exact ⟨rfl,rfl⟩
def Makes2 (w : World) (s : Int) (e : Ending) (w' : World) : Prop :=
 ∃ zs r,e = .returned (.tuple #[r,.int .i64 0]) ∧ Mine w.heap.size w' r zs ∧ zFA zs ∧ val zs = s ∧ Below w.heap.size w w'
theorem canon_one : zFA [1] := ⟨zCB (by omega) WF.nil,rfl⟩
theorem bitLen_9 {n : Nat} (h : n ≤ 256) : bitLen n ≤ 9 := by
 unfold bitLen
 split
 ·omega
 ·rename_i h0
  have := (Nat.log2_lt h0).2 (show n < 2 ^ 9 by omega);omega
theorem bitLen_none (n : Nat) : n / 2 ^ bitLen n = 0 := Nat.div_eq_of_lt (bitLen_spec n).1
theorem half_step (n k : Nat) : n / 2 ^ k = 2 * (n / 2 ^ (k + 1)) + n / 2 ^ k % 2 := by
 rw [Nat.pow_succ,← Nat.div_div_eq_div_mul];omega
theorem pow_some {w : World} {va : Value} {xs : List Int} (ha : Sl w.heap.size w va xs) (hl : xs.length ≤ 1073741824) {n : Nat} (hn : n ≤ 256) :
  Calls Try.prog 96 #[va,.int .i64 (n : Int)] w (Makes2 w (val xs ^ n)) := by
 have HA := hid ha;have X0 := hid (val_nonneg ha.1);have X1 := hid (zXA ha.1);have hLn : ∀ w : World,Calls Try.prog 78 #[.int .u64 (n : Int)] w fun e w' => e = .returned (.int .i64 (bitLen n : Int)) ∧ w' = w := fun w => by
  have := zvD (x := (n : Int)) (by unfold IsW wB;omega) w
  simpa using this
 have h9 := bitLen_9 hn;have HZ := hid (bitLen_none n);have HB : Hid (∀ k,bits BinOp.and IntKind.i64 ((n : Int) / 2 ^ k) 1 = ((n / 2 ^ k % 2 : Nat) : Int)) := fun k => bit_i64 n k hn
 obtain ⟨L,hL⟩ : ∃ L,xs.length = L := ⟨_,rfl⟩
 have HL := hid hL;rw [hL] at X1 hl;have hL2 : ∀ e,e ≤ 256 → L * e ≤ 274877906944 := fun e he => by
  have := Nat.mul_le_mul hl he;omega
 have HL2 := hid hL2;generalize bitLen n = B at *;obtain ⟨X,hX⟩ : ∃ X,val xs = X := ⟨_,rfl⟩
 rw [hX] at X0 X1 ⊢;have HX := hid hX;clear ha hL hL2 hX;go_enter Try.func96,Try.ntmps96;go_wp2_with fail;refine (hLn _).mono ?_;rintro e w1 ⟨rfl,rfl⟩;have hnew := hid (zPD (B := w.heap.size) (zs := [1]) (k := 1) (Nat.le_refl _) canon_one.1 rfl (by omega) (Row.new w [1]));have hbel := hid ((Below.refl w.heap.size w).alloc (Nat.le_refl _) (.cells #[.int .u64 1] 26));go_wp2_with fail
 go_loopw [6,7] (fun p i wr => ∃ (j : Nat) (zs : List Int),j ≤ 9 ∧ i = .int .i64 ((j : Int) - 1) ∧ Hid (Mine w.heap.size wr p zs) ∧ Hid (zFA zs) ∧ Hid (val zs = X ^ (n / 2 ^ j)) ∧ Hid (Below w.heap.size w wr)) (fun _ i _ => (intOf i + 1).toNat)
 case atStart => exact ⟨B,[1],h9,rfl,hnew,hid canon_one,(by unfold Hid;rw [HZ.out];simp [val]),hbel⟩
 case round =>
  clear hnew hbel;obtain ⟨j,zs,hj,rfl,HM,HC,HV,hb⟩ := hrel
  match j,hj,HV with
  | 0,hj,HV =>
   obtain ⟨pa,pc,rfl⟩ := HM.out.form;go_wp2;go_ret2;exact ⟨zs,_,rfl,HM.out,HC.out,by rw [HV.out];simp,hb.out⟩
  | k + 1,hj,HV =>
   have hbk := HB.out k;have hst := hid (half_step n k);have hlen := zeD X0.out X1.out HC.out HV.out;have he : n / 2 ^ (k + 1) ≤ n := Nat.div_le_self _ _;have hl2 := HL2.out _ (show n / 2 ^ (k + 1) ≤ 256 by omega);have HA1 := hid ((HA.out.now hb.out));have HSQ := hid (zPC HM.out.sl (by omega));obtain ⟨pa,pc,rfl⟩ := HM.out.form;clear hlen hl2;go_wp2_with fail;refine HSQ.out.mono ?_;rintro e w2 ⟨qs,q,rfl,m1,m2,m3,m4⟩;obtain ⟨qa,qc,rfl⟩ := m1.form;have HM1 := hid (m1.mono hb.out.size);have HQ : Hid (val qs = X ^ (2 * (n / 2 ^ (k + 1)))) := by unfold Hid;rw [m3,HV.out,← Int.pow_add];congr 1;omega
   have hb2 := hid (zAA hb.out m4);have HA2 := hid (HA1.out.now m4);have HC2 := hid m2;clear m1 m2 m3 m4 HSQ HA1 HM HC HV hb
   by_cases hbit : n / 2 ^ k % 2 = 1
   ·rw [hbit] at hbk
    have hle : n / 2 ^ k ≤ n := Nat.div_le_self _ _;have hlen := zeD X0.out X1.out HC2.out HQ.out;have hl2 := HL2.out _ (show 2 * (n / 2 ^ (k + 1)) ≤ 256 by have := hst.out;omega);have HMU := hid (zRF HM1.out.sl HA2.out (by rw [HL.out];omega));have HBI := hid hbit;clear hlen hl2 hbit;go_wp2_with fail;refine HMU.out.mono ?_;rintro e w3 ⟨ts,t,rfl,m1,m2,m3,m4⟩;have HM3 := hid (m1.mono hb2.out.size);have HC3 := hid m2;have HQ3 := hid m3;have hb3 := hid (zAA hb2.out m4);clear m1 m2 m3 m4 HMU HA2;go_wp2;go_roundw
    case rel => exact ⟨k,ts,by omega,by go_num,HM3,HC3,(by unfold Hid;rw [HQ3.out,HQ.out,HX.out,← Int.pow_succ];congr 1;have := hst.out;have := HBI.out;omega),hb3⟩
    case measure => first | (simp [intOf];done) | (simp [intOf];omega)
   ·have hbit0 : n / 2 ^ k % 2 = 0 := by omega
    rw [hbit0] at hbk;have HBI := hid hbit0;clear hbit hbit0;go_wp2;go_roundw
    case rel => exact ⟨k,qs,by omega,by go_num,HM1,HC2,(by unfold Hid;rw [HQ.out];congr 1;have := hst.out;have := HBI.out;omega),hb2⟩
    case measure => first | (simp [intOf];done) | (simp [intOf];omega)
end Go.Proofs.Ytppddlbkdoebmaa
