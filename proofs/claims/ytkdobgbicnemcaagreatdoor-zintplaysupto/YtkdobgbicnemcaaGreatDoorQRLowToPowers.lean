/-
 QRLowToPowers: RLow, Steps, Product, Square, Pow, Low, MulLow, RCalls, Powers, joined.
-/
import Derived.Test.YtkdobgbicnemcaaGreatDoorQRPureToR5Add
import Derived.Test.YtkdobgbicnemcaaGreatDoorQMulAllToOnes
import Derived.Test.YtkdobgbicnemcaaGreatDoorQLitsToTouch
import Derived.Test.YtkdobgbicnemcaaGreatDoorQWordsToCarry
import Derived.Deep.RegionWith
import Derived.Test.YtkdobgbicnemcaaGreatDoorQAlikeToShift
import Derived.Test.YtkdobgbicnemcaaGreatDoorQDivideToShr
import Derived.Test.YtkdobgbicnemcaaGreatDoorQRWordsToR5Ones
import Derived.Test.YtkdobgbicnemcaaGreatDoorQExactToR5Div

set_option maxRecDepth 100000
set_option maxHeartbeats 6400000
set_option linter.unusedVariables false
set_option linter.unusedSimpArgs false
namespace Go.Proofs.YtkdobgbicnemcaaGreatDoor
open Go.RowKit
theorem zQB.step {w w1 w' : World} {s : Int} {e : Ending} (hb : Below w.heap.size w w1) (h : zQB w1 s e w') : zQB w s e w' := by
 obtain ⟨zs,r,rfl,m1,m2,m3,m4⟩ := h;exact ⟨zs,r,rfl,m1.mono hb.size,m2,m3,below_step hb m4⟩
theorem added_makes {w w' : World} {s : Int} {k : Nat} {e : Ending} (h : zQI w s k e w') : zQB w s e w' := by
 obtain ⟨zs,cap,r,rfl,hc,hv,hk,hl,hm,hr,hb,hs⟩ := h;exact ⟨zs,_,rfl,⟨hc.1,.inr ⟨_,r,cap,Nat.le_refl _,by omega,by omega,by unfold maxLen;omega,rfl,hr⟩⟩,hc,hv,hb⟩

theorem zgD {w : World} {va : Value} {xs : List Int} (ha : Sl w.heap.size w va xs) (hl : xs.length + xs.length ≤ 35184372088832) :
  Calls Tryz.prog 114 #[va] w (zQB w (val xs * val xs)) := by
 have HM := hid (zrF ha ha hl);clear ha;go_enter Tryz.func114,Tryz.ntmps114;go_wp2_with fail;refine HM.out.mono ?_;rintro e w1 ⟨zs,r,rfl,m1,m2,m3,m4⟩;go_wp2;go_ret;exact ⟨zs,r,rfl,m1,m2,m3,m4⟩
theorem zGG {X : Int} {L : Nat} (h0 : 0 ≤ X) (h : X < pw L) : ∀ e : Nat,0 ≤ X ^ e ∧ X ^ e ≤ pw (L * e)
 | 0 => by simp [pw]
 | e + 1 => by
  obtain ⟨h1,h2⟩ := zGG h0 h e;rw [Int.pow_succ,Nat.mul_add,zjD,Nat.mul_one];exact ⟨Int.mul_nonneg h1 h0,Int.mul_le_mul h2 (Int.le_of_lt h) h0 (Int.le_of_lt (zVB _))⟩
theorem zgE {X : Int} {L e : Nat} {zs : List Int} (h0 : 0 ≤ X) (h : X < pw L) (hz : zHA zs) (hv : val zs = X ^ e) : zs.length ≤ L * e + 1 := by
 refine zSA hz ?_;have h1 := (zGG h0 h e).2;have h2 := zVB (L * e);rw [hv,pw];unfold wB;omega
theorem bits_and_i64 (a b : Nat) (ha : a < 9223372036854775808) (hb : b < 9223372036854775808) : bits .and .i64 (a : Int) (b : Int) = ((a &&& b : Nat) : Int) := by
 have hx : a &&& b ≤ a := Nat.and_le_left;have h1 : (BitVec.ofInt 64 (a : Int)).toNat = a := by
  rw [BitVec.ofInt_natCast,BitVec.toNat_ofNat];exact Nat.mod_eq_of_lt (by omega)
 have h2 : (BitVec.ofInt 64 (b : Int)).toNat = b := by
  rw [BitVec.ofInt_natCast,BitVec.toNat_ofNat];exact Nat.mod_eq_of_lt (by omega)
 show IntKind.i64.wrap ((BitVec.ofInt 64 (a : Int) &&& BitVec.ofInt 64 (b : Int)).toNat : Int) = _
 rw [BitVec.toNat_and,h1,h2,IntKind.wrap_i64];omega
theorem bit_i64 (n k : Nat) (hn : n ≤ 256) : bits BinOp.and IntKind.i64 ((n : Int) / 2 ^ k) 1 = ((n / 2 ^ k % 2 : Nat) : Int) := by
 have e : (n : Int) / 2 ^ k = ((n / 2 ^ k : Nat) : Int) := by simp
 have hd : n / 2 ^ k ≤ n := Nat.div_le_self _ _;rw [e,show (1 : Int) = ((1 : Nat) : Int) from rfl,bits_and_i64 _ 1 (by omega) (by omega),Nat.and_one_is_mod]
theorem bitsLen_any {x : Int} (hx : IsW x) (w : World) : Calls Tryz.prog 113 #[.int .u64 x] w fun e w' => e = .returned (.int .i64 (bitLen x.toNat : Int)) ∧ w' = w := by
 have HL := hid (zjE hx w);go_enter Tryz.func113,Tryz.ntmps113;go_wp2_with fail;refine HL.out.mono ?_;rintro e w1 ⟨rfl,rfl⟩;go_wp2;go_ret;exact ⟨rfl,rfl⟩
def zkI (w : World) (s : Int) (e : Ending) (w' : World) : Prop :=
 ∃ zs r,e = .returned (.tuple #[r,.int .i64 0]) ∧ Mine w.heap.size w' r zs ∧ zHA zs ∧ val zs = s ∧ Below w.heap.size w w'
theorem pow_neg (v : Value) (w : World) {i : Int} (hi : i < 0) :
  Calls Tryz.prog 81 #[v,.int .i64 i] w fun e w' => e = .returned (.tuple #[.slice none 0 0,.int .i64 3]) ∧ w' = w := by
 go_enter Tryz.func81,Tryz.ntmps81;go_wp2;go_ret2;exact ⟨rfl,rfl⟩
theorem pow_big (v : Value) (w : World) {i : Int} (hi : 256 < i) :
  Calls Tryz.prog 81 #[v,.int .i64 i] w fun e w' => e = .returned (.tuple #[.slice none 0 0,.int .i64 5]) ∧ w' = w := by
 have h0 : ¬ i < 0 := by omega
 go_enter Tryz.func81,Tryz.ntmps81;go_wp2;go_ret2;exact ⟨rfl,rfl⟩
theorem ztC : zHA [1] := ⟨zdC (by omega) WF.nil,rfl⟩
theorem bitLen_9 {n : Nat} (h : n ≤ 256) : bitLen n ≤ 9 := by
 unfold bitLen
 split
 ·omega
 ·rename_i h0
  have := (Nat.log2_lt h0).2 (show n < 2 ^ 9 by omega);omega
theorem bitLen_none (n : Nat) : n / 2 ^ bitLen n = 0 := Nat.div_eq_of_lt (bitLen_spec n).1
theorem half_step (n k : Nat) : n / 2 ^ k = 2 * (n / 2 ^ (k + 1)) + n / 2 ^ k % 2 := by
 rw [Nat.pow_succ,← Nat.div_div_eq_div_mul];omega
theorem znF {w : World} {va : Value} {xs : List Int} (ha : Sl w.heap.size w va xs) (hl : xs.length ≤ 1073741824) {n : Nat} (hn : n ≤ 256) :
  Calls Tryz.prog 81 #[va,.int .i64 (n : Int)] w (zkI w (val xs ^ n)) := by
 have HA := hid ha;have X0 := hid (zEA ha.1);have X1 := hid (zUA ha.1);have hLn : ∀ w : World,Calls Tryz.prog 113 #[.int .u64 (n : Int)] w fun e w' => e = .returned (.int .i64 (bitLen n : Int)) ∧ w' = w := fun w => by
  have := bitsLen_any (x := (n : Int)) (by unfold IsW wB;omega) w
  simpa using this
 have h9 := bitLen_9 hn;have HZ := hid (bitLen_none n);have HB : Hid (∀ k,bits BinOp.and IntKind.i64 ((n : Int) / 2 ^ k) 1 = ((n / 2 ^ k % 2 : Nat) : Int)) := fun k => bit_i64 n k hn
 obtain ⟨L,hL⟩ : ∃ L,xs.length = L := ⟨_,rfl⟩
 have HL := hid hL;rw [hL] at X1 hl;have hL2 : ∀ e,e ≤ 256 → L * e ≤ 274877906944 := fun e he => by
  have := Nat.mul_le_mul hl he;omega
 have HL2 := hid hL2;generalize bitLen n = B at *;obtain ⟨X,hX⟩ : ∃ X,val xs = X := ⟨_,rfl⟩
 rw [hX] at X0 X1 ⊢;have HX := hid hX;clear ha hL hL2 hX;go_enter Tryz.func81,Tryz.ntmps81;go_wp2_with fail;refine (hLn _).mono ?_;rintro e w1 ⟨rfl,rfl⟩;have hnew := hid (zTD (B := w.heap.size) (zs := [1]) (k := 1) (Nat.le_refl _) ztC.1 rfl (by omega) (Row.new w [1]));have hbel := hid ((Below.refl w.heap.size w).alloc (Nat.le_refl _) (.cells #[.int .u64 1] 53));go_wp2_with fail
 go_loopw [6,7] (fun p i wr => ∃ (j : Nat) (zs : List Int),j ≤ 9 ∧ i = .int .i64 ((j : Int) - 1) ∧ Hid (Mine w.heap.size wr p zs) ∧ Hid (zHA zs) ∧ Hid (val zs = X ^ (n / 2 ^ j)) ∧ Hid (Below w.heap.size w wr)) (fun _ i _ => (intOf i + 1).toNat)
 case atStart => exact ⟨B,[1],h9,rfl,hnew,hid ztC,(by unfold Hid;rw [HZ.out];simp [val]),hbel⟩
 case round =>
  clear hnew hbel;obtain ⟨j,zs,hj,rfl,HM,HC,HV,hb⟩ := hrel
  match j,hj,HV with
  | 0,hj,HV =>
   obtain ⟨pa,pc,rfl⟩ := HM.out.form;go_wp2;go_ret2;exact ⟨zs,_,rfl,HM.out,HC.out,by rw [HV.out];simp,hb.out⟩
  | k + 1,hj,HV =>
   have hbk := HB.out k;have hst := hid (half_step n k);have hlen := zgE X0.out X1.out HC.out HV.out;have he : n / 2 ^ (k + 1) ≤ n := Nat.div_le_self _ _;have hl2 := HL2.out _ (show n / 2 ^ (k + 1) ≤ 256 by omega);have HA1 := hid ((HA.out.now hb.out));have HSQ := hid (zgD HM.out.sl (by omega));obtain ⟨pa,pc,rfl⟩ := HM.out.form;clear hlen hl2;go_wp2_with fail;refine HSQ.out.mono ?_;rintro e w2 ⟨qs,q,rfl,m1,m2,m3,m4⟩;obtain ⟨qa,qc,rfl⟩ := m1.form;have HM1 := hid (m1.mono hb.out.size);have HQ : Hid (val qs = X ^ (2 * (n / 2 ^ (k + 1)))) := by unfold Hid;rw [m3,HV.out,← Int.pow_add];congr 1;omega
   have hb2 := hid (below_step hb.out m4);have HA2 := hid (HA1.out.now m4);have HC2 := hid m2;clear m1 m2 m3 m4 HSQ HA1 HM HC HV hb
   by_cases hbit : n / 2 ^ k % 2 = 1
   ·rw [hbit] at hbk
    have hle : n / 2 ^ k ≤ n := Nat.div_le_self _ _;have hlen := zgE X0.out X1.out HC2.out HQ.out;have hl2 := HL2.out _ (show 2 * (n / 2 ^ (k + 1)) ≤ 256 by have := hst.out;omega);have HMU := hid (zrF HM1.out.sl HA2.out (by rw [HL.out];omega));have HBI := hid hbit;clear hlen hl2 hbit;go_wp2_with fail;refine HMU.out.mono ?_;rintro e w3 ⟨ts,t,rfl,m1,m2,m3,m4⟩;have HM3 := hid (m1.mono hb2.out.size);have HC3 := hid m2;have HQ3 := hid m3;have hb3 := hid (below_step hb2.out m4);clear m1 m2 m3 m4 HMU HA2;go_wp2;go_roundw
    case rel => exact ⟨k,ts,by omega,by go_num,HM3,HC3,(by unfold Hid;rw [HQ3.out,HQ.out,HX.out,← Int.pow_succ];congr 1;have := hst.out;have := HBI.out;omega),hb3⟩
    case measure => first | (simp [intOf];done) | (simp [intOf];omega)
   ·have hbit0 : n / 2 ^ k % 2 = 0 := by omega
    rw [hbit0] at hbk;have HBI := hid hbit0;clear hbit hbit0;go_wp2;go_roundw
    case rel => exact ⟨k,qs,by omega,by go_num,HM1,HC2,(by unfold Hid;rw [HQ.out];congr 1;have := hst.out;have := HBI.out;omega),hb2⟩
    case measure => first | (simp [intOf];done) | (simp [intOf];omega)


theorem Own.mine {B : Nat} {w : World} {v : Value} {zs : List Int} (h : Own B w v zs) : Mine B w v zs := by
 obtain ⟨hw,h1 | ⟨g,r,h1,h2,h3,h4⟩⟩ := h
 ·exact ⟨hw,.inl h1⟩
 ·exact ⟨hw,.inr ⟨g,r,_,h1,by omega,by omega,.inr ⟨rfl,by unfold maxLen;omega⟩,h3,h4⟩⟩
theorem Told.makes {w w' : World} {s : Int} {e : Ending} (h : Told w s e w') : zQB w s e w' := by
 obtain ⟨zs,r,rfl,h2,h3,h4,h5⟩ := h;exact ⟨zs,r,rfl,h2.mine,h3,h4,h5⟩
theorem rmul_makes {w : World} {v u : Value} {xs ys : List Int} (h : Sl w.heap.size w v xs) (h' : Sl w.heap.size w u ys) (hlen : xs.length ≤ 1099511627776) (hlen' : ys.length ≤ 1099511627776) :
  Calls Tryz.prog 65 #[v,u] w (zQB w (val xs * val ys)) := (zxG h h' hlen hlen').mono fun _ _ q => q.makes
theorem rpow_big (v : Value) (w : World) {i : Int} (hi : 256 < i) :
  Calls Tryz.prog 66 #[v,.int .i64 i] w fun e w' => e = .returned (.tuple #[.slice none 0 0,.int .i64 5]) ∧ w' = w := by
 have h0 : ¬ i < 0 := by omega
 go_enter Tryz.func66,Tryz.ntmps66;go_wp2;go_ret2;exact ⟨rfl,rfl⟩
theorem zcE {w : World} {va : Value} {xs : List Int} (ha : Sl w.heap.size w va xs) (hl : xs.length ≤ 2097152) {n : Nat} (hn : n ≤ 256) :
  Calls Tryz.prog 66 #[va,.int .i64 (n : Int)] w (zkI w (val xs ^ n)) := by
 have HA := hid ha;have X0 := hid (zEA ha.1);have X1 := hid (zUA ha.1);have HL2 : Hid (∀ e,e ≤ 256 → xs.length * e ≤ 536870912) := fun e he => by
  have := Nat.mul_le_mul hl he;omega
 clear ha;have hnew := hid (zTD (B := w.heap.size) (zs := [1]) (k := 1) (Nat.le_refl _) ztC.1 rfl (by omega) (Row.new w [1]));have hbel := hid ((Below.refl w.heap.size w).alloc (Nat.le_refl _) (.cells #[.int .u64 1] 53));go_enter Tryz.func66,Tryz.ntmps66;go_wp2_with fail
 go_loopw [6,7] (fun p i wr => ∃ (j : Nat) (zs : List Int),j ≤ n ∧ i = .int .i64 j ∧ Hid (Mine w.heap.size wr p zs) ∧ Hid (zHA zs) ∧ Hid (val zs = val xs ^ j) ∧ Hid (Below w.heap.size w wr)) (fun _ i _ => n - (intOf i).toNat)
 case atStart => exact ⟨0,[1],Nat.zero_le _,rfl,hnew,hid ztC,(by unfold Hid;simp [val]),hbel⟩
 case round =>
  clear hnew hbel;obtain ⟨j,zs,hj,rfl,HM,HC,HV,hb⟩ := hrel
  by_cases hlt : j < n
  ·have hlen := zgE X0.out X1.out HC.out HV.out
   have hl2 := HL2.out j (by omega);have HMU := hid (rmul_makes HM.out.sl (HA.out.now hb.out) (by omega) (by omega));obtain ⟨pa,pc,rfl⟩ := HM.out.form;clear hlen hl2;go_wp2_with fail;refine HMU.out.mono ?_;rintro e w2 ⟨qs,q,rfl,m1,m2,m3,m4⟩;have HM2 := hid (m1.mono hb.out.size);have HC2 := hid m2;have HV2 : Hid (val qs = val xs ^ (j + 1)) := by unfold Hid;rw [m3,HV.out,Int.pow_succ]
   have hb2 := hid (below_step hb.out m4);clear m1 m2 m3 m4 HMU;go_wp2;go_roundw
   case rel => exact ⟨j + 1,qs,by omega,by go_num,HM2,HC2,HV2,hb2⟩
   case measure => first | (simp [intOf];done) | (simp [intOf];omega)
  ·obtain rfl : j = n := by omega
   obtain ⟨pa,pc,rfl⟩ := HM.out.form;go_wp2;go_ret2;exact ⟨zs,_,rfl,HM.out,HC.out,HV.out,hb.out⟩
theorem pow_none {w : World} {v : Value} {i : Int} (hi : i < 0) : Calls Tryz.prog 81 #[v,.int .i64 i] w fun e w' => e = .returned (.tuple #[.slice none 0 0,.int .i64 3]) ∧ Below w.heap.size w w' :=
 (pow_neg v w hi).mono fun e w' ⟨h1,h2⟩ => ⟨h1,by subst h2;exact Below.refl _ _⟩
theorem pow_over {w : World} {v : Value} {i : Int} (hi : 256 < i) : Calls Tryz.prog 81 #[v,.int .i64 i] w fun e w' => e = .returned (.tuple #[.slice none 0 0,.int .i64 5]) ∧ Below w.heap.size w w' :=
 (pow_big v w hi).mono fun e w' ⟨h1,h2⟩ => ⟨h1,by subst h2;exact Below.refl _ _⟩
theorem sl_one {B : Nat} {w : World} {a : Option Addr} {n cap : Nat} {x : Int} (h : Sl B w (.slice a n cap) [x]) : ∃ b o,a = some ⟨b,o,none⟩ ∧ w.cell? ⟨b,o,none⟩ = some (.int .u64 x) := by
 obtain ⟨_,a',cap',he,hlc,_,hm⟩ := h;simp only [Value.slice.injEq] at he;obtain ⟨rfl,_,rfl⟩ := he;rcases hm with e | ⟨b,off,rfl,_,hcell⟩
 ·cases e
 exact ⟨b,off,rfl,hcell 0 (by simp)⟩
end Go.Proofs.YtkdobgbicnemcaaGreatDoor
