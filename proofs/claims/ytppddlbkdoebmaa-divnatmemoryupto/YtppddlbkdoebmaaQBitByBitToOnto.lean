/-
 QBitByBitToOnto: BitByBit, RootPure, Onto, joined.
-/
import Derived.Test.YtppddlbkdoebmaaQPowerToBitStep
import Derived.BigQuiet

set_option maxRecDepth 100000
set_option maxHeartbeats 6400000
set_option linter.unusedVariables false
set_option linter.unusedSimpArgs false
namespace Go.Proofs.Ytppddlbkdoebmaa
open Go.RowKit
theorem canon_from {zs : List Int} (hz : WF zs) {t : Nat} (hl : zs.length = t + 1) (h : pw t ≤ val zs) : zFA zs := by
 refine ⟨hz,?_⟩;have h1 := zXA (canon_lst hz).1;have h2 := zIA zs;rw [val_lst,length_lst] at h1;rcases Nat.lt_or_ge (wid zs) zs.length with q | q
 ·exfalso
  have : pw (wid zs) ≤ pw t := by
   rw [show t = wid zs + (t - wid zs) by omega,zDD];have := Int.mul_le_mul_of_nonneg_left (show (1 : Int) ≤ pw (t - wid zs) by have := zhA (t - wid zs);omega) (Int.le_of_lt (zhA (wid zs)));omega
  omega
 ·omega
theorem set_back (R : List Int) (i : Nat) (x y : Int) (h : i < R.length) (e : R[i] = y) : (R.set i x).set i y = R := by
 rw [List.set_set,← e,List.set_getElem_self]
theorem bitByBit_any {w : World} {va : Value} {xs : List Int} {n r P L : Nat} (ha : Sl w.heap.size w va xs) (hr : zNF (r : Int) (val xs) n) (hP : r < 2 ^ P) (hP1 : 1 ≤ P) (hP0 : 2 ^ (P - 1) ≤ r) (hL : L = (P + 63) / 64) (lL : L ≤ 1073741824) (lLn : L * n ≤ 8589934592) (hn32 : n < 4294967296) :
  Calls Try.prog 79 #[va,.int .i64 (n : Int),.int .i64 (P : Int)] w (zUE w.heap.size w (r : Int)) := by
 have HA := hid ha;have HR := hid hr;have HS := hid (zID.zero (L := L) hP);have e1 : ((P : Int) + 64 - 1) / 64 = (L : Int) := by omega
 have HP0 := hid hP0;clear ha hr hP hP0 hL;go_enter Try.func79,Try.ntmps79;go_wp2_with (at_make;refine wpList_make_words _ rfl _ _ rfl _ _ L L rfl rfl (by omega) (by omega) (Nat.le_refl _) (by omega) ?_)
 intro w2 hrow hb2 hsz2;have HM := hid (And.intro hrow hb2);clear hrow hb2 hsz2;go_wp2_with fail
 go_loopw [8] (fun i wr => ∃ (k : Nat) (R : List Int),k ≤ P ∧ i = .int .i64 ((k : Int) - 1) ∧ Hid (zID r L k R) ∧ Hid (Row wr w.heap.size (ws R)) ∧ Hid (Below w.heap.size w wr)) (fun i _ => (intOf i + 1).toNat)
 case atStart => exact ⟨P,_,Nat.le_refl _,rfl,HS,HM.out.1,HM.out.2⟩
 case round =>
  clear HS HM;obtain ⟨k,R,hk,rfl,RA,HW,HB⟩ := hrel
  by_cases hk0 : k = 0
  ·subst hk0
   go_wp2;go_ret;obtain ⟨a1,a2,a3⟩ := RA.out;have hv : val R = (r : Int) := by rw [zNA a2,a3,Nat.pow_zero,Nat.div_one,Nat.mul_one]
   refine ⟨R,_,rfl,?_,?_,hv,HB.out⟩
   ·refine ⟨a2,.inr ⟨w.heap.size,[],Nat.le_refl _,by simp;omega,?_,by simpa using HW.out⟩⟩
    simp [a1]
   ·refine canon_from a2 (t := (P - 1) / 64) (by omega) ?_
    rw [hv,zVC];have h1 : 2 ^ (64 * ((P - 1) / 64)) ≤ 2 ^ (P - 1) := Nat.pow_le_pow_right (by omega) (by omega);have h2 := HP0.out;have h3 : ((2 : Int) ^ (64 * ((P - 1) / 64))) = ((2 ^ (64 * ((P - 1) / 64)) : Nat) : Int) := by push_cast;rfl
    rw [h3];omega
  ·obtain ⟨j,rfl⟩ : ∃ j,k = j + 1 := ⟨k - 1,by omega⟩
   have ej : ((j + 1 : Nat) : Int) - 1 = (j : Int) := by omega
   have hjl : j / 64 < R.length := by rw [RA.out.1];omega
   obtain ⟨z,hz,hzm,hzl,hwf,hvn⟩ := RA.out.put hjl;obtain ⟨d,hd⟩ : ∃ d,j / 64 = d := ⟨_,rfl⟩
   obtain ⟨p,hp⟩ : ∃ p,j % 64 = p := ⟨_,rfl⟩
   have ed : (j : Int) / 64 = (d : Int) := by omega
   have ep : (j : Int) % 64 = (p : Int) := by omega
   have i0 : (0 : Int) ≤ (d : Int) := by omega
   have i1 : (0 : Int) ≤ (p : Int) := by omega
   have hdL : d < L := by rw [← hd,← RA.out.1];exact hjl
   have i2 : (d : Int) < (L : Int) := by omega
   have hp64 : p < 64 := by omega
   simp only [hd,hp] at hz hzm hzl hwf hvn hjl;have e_or := bits_or_bit hzm (by omega) hp64;have e_an := bits_andNot_bit hzm hzl hp64;have ewr : IntKind.u64.wrap (2 ^ p) = ((2 ^ p : Nat) : Int) := by
    have h1 : ((2 : Int) ^ p) = ((2 ^ p : Nat) : Int) := by push_cast;rfl
    rw [h1,IntKind.wrap_u64];omega
   obtain ⟨y,hy⟩ : ∃ y,z + 2 ^ p = y := ⟨_,rfl⟩
   rw [hy] at e_or e_an hwf hvn;obtain ⟨T,hT⟩ : ∃ T,2 ^ p = T := ⟨_,rfl⟩
   rw [hT] at e_or e_an ewr;have c1 : ∀ q,(wr.drewN q).cell? ⟨w.heap.size,d,none⟩ = some (.int .u64 (z : Int)) := fun q => by
    have := Row.word (r := []) (by simpa using HW.out.drewN q) hjl;rw [hz] at this;exact this
   have cf : ∀ q,(wr.drewN q).frozen? ⟨w.heap.size,d,none⟩ = false := fun q => (HW.out.drewN q).frozen d
   obtain ⟨R1,hR1⟩ : ∃ R1,R.set d (y : Int) = R1 := ⟨_,rfl⟩
   have HR1 : Hid (∀ m,Row ((wr.drewN m).setCell ⟨w.heap.size,d,none⟩ (.int .u64 (y : Int))) w.heap.size (ws R1)) := fun m => by
    have := Row.setWord (r := []) (by simpa using HW.out.drewN m) hjl (y : Int);rw [hR1] at this
    simpa using this
   have HB1 : Hid (∀ m,Below w.heap.size w ((wr.drewN m).setCell ⟨w.heap.size,d,none⟩ (.int .u64 (y : Int)))) := fun m =>
    (below_drewN HB.out m).setCell (p := ⟨w.heap.size,d,none⟩) (Nat.le_refl _) (.int .u64 (y : Int))
   have hl1 : R1.length = L := by rw [← hR1,List.length_set];exact RA.out.1
   have HBK : Hid (R1.set d (z : Int) = R) := by unfold Hid;rw [← hR1];exact set_back R d _ _ hjl hz
   have HY1 : Hid (∀ h : d < R1.length,R1[d] = (y : Int)) := by subst hR1;intro h;simp
   rw [hR1] at hwf hvn;have HWF := hid hwf;have HVN : Hid (val R1 = ((2 * (r / 2 ^ (j + 1)) + 1) * 2 ^ j : Nat)) := by unfold Hid;rw [zNA hwf,hvn]
   have HPW : Hid (∀ wy,Row wy w.heap.size (ws R1) → Calls Try.prog 91 #[.slice (some ⟨w.heap.size,0,none⟩) L L,.int .i64 (n : Int)] wy (zMB wy (val R1 ^ n))) := fun wy hrw => by
    have hsl := Row.sl (r := []) (by simpa using hrw) HWF.out (cap := L) (by omega) (by omega) hrw.lt;rw [hl1] at hsl;exact zvE hsl (by omega) (by rw [hl1];exact lLn) hn32
   clear HW HB hwf hvn hR1 hy hzl hzm hT;go_wp2_with fail;go_quiet (fail);go_wp2_with fail;refine (HPW.out _ (HR1.out _)).mono ?_;rintro e w3 ⟨ps,vp,rfl,mp,cp,ep2,b3⟩;have R3 := hid ((HR1.out _).below b3 (HR1.out _).lt);have K3 := hid (zAA (HB1.out _) b3);have HC := hid (ztD mp.sl (HA.out.now K3.out));rw [ep2] at HC;clear HR1 HB1 HPW mp ep2 b3 cp
   by_cases hle : (2 * (r / 2 ^ (j + 1)) + 1) * 2 ^ j ≤ r
   ·have hc2 : ¬ 0 < cmpI (val R1 ^ n) (val xs) := by
     have := pow_not_above HR.out (by rw [HVN.out];omega) (show val R1 ≤ (r : Int) by rw [HVN.out];omega);rcases Int.lt_or_eq_of_le this with t | t
     ·rw [zxA t];omega
     ·rw [t];unfold cmpI;simp
    have RA1 : Hid (zID r L j R1) := ⟨hl1,HWF.out,by
     have := HVN.out;rw [zNA HWF.out] at this;rw [Int.ofNat.inj this,bit_in hle]⟩
    generalize cmpI (val R1 ^ n) (val xs) = CC at *;clear hle HVN;go_wp2_with fail;refine HC.out.mono ?_;rintro e w4 ⟨rfl,b4⟩;have R4 := hid (R3.out.below b4 R3.out.lt);have K4 := hid (zAA K3.out b4);clear HC R3 K3 b4;go_wp2;go_roundw
    case rel => exact ⟨j,R1,by omega,by go_num,RA1,R4,K4⟩
    case measure => simp [intOf]
   ·have hc2 : 0 < cmpI (val R1 ^ n) (val xs) := by
     have := pow_above HR.out (show (r : Int) < val R1 by rw [HVN.out];omega);rw [zyA this];omega
    have RA1 : Hid (zID r L j R) := ⟨RA.out.1,RA.out.2.1,by rw [RA.out.2.2];exact bit_out (by omega)⟩
    have hd1 : d < R1.length := by omega
    have hy1 : R1[d] = (y : Int) := HY1.out hd1;generalize cmpI (val R1 ^ n) (val xs) = CC at *;clear hle HVN;go_wp2_with fail;refine HC.out.mono ?_;rintro e w4 ⟨rfl,b4⟩;have R4 := R3.out.below b4 R3.out.lt;have K4 := hid (zAA K3.out b4);have c4 : w4.cell? ⟨w.heap.size,d,none⟩ = some (.int .u64 (y : Int)) := by
     have := Row.word (r := []) (by simpa using R4) hd1;rw [hy1] at this;exact this
    have cf4 : w4.frozen? ⟨w.heap.size,d,none⟩ = false := R4.frozen d;have HR5 : Hid (Row (w4.setCell ⟨w.heap.size,d,none⟩ (.int .u64 (z : Int))) w.heap.size (ws R)) := by
     have := Row.setWord (r := []) (by simpa using R4) hd1 (z : Int);rw [HBK.out] at this
     simpa [Hid] using this
    have HB5 : Hid (Below w.heap.size w (w4.setCell ⟨w.heap.size,d,none⟩ (.int .u64 (z : Int)))) := K4.out.setCell (p := ⟨w.heap.size,d,none⟩) (Nat.le_refl _) (.int .u64 (z : Int));clear HC R3 K3 b4 R4 K4;go_wp2;go_roundw
    case rel => exact ⟨j,R,by omega,by go_num,RA1,HR5,HB5⟩
    case measure => simp [intOf]
def zlA (r a k : Nat) : Prop := r ^ k ≤ a ∧ a < (r + 1) ^ k
theorem zOD {k : Nat} (hk : 1 ≤ k) : ∀ a : Nat,∃ r,zlA r a k
 | 0 => ⟨0,by rw [Nat.zero_pow (by omega)];exact Nat.le_refl _,by simp⟩
 | a + 1 => by
  obtain ⟨r,h1,h2⟩ := zOD hk a
  by_cases h : (r + 1) ^ k ≤ a + 1
  ·refine ⟨r + 1,h,?_⟩
   have : (r + 1) ^ k < (r + 1 + 1) ^ k := Nat.pow_lt_pow_left (by omega) (by omega);omega
  ·exact ⟨r,by omega,by omega⟩
theorem zlA.is {r a k : Nat} (h : zlA r a k) : zNF (r : Int) (a : Int) k := by
 refine ⟨by omega,?_,?_⟩
 ·have := h.1;rw [← Int.natCast_pow];omega
 ·have := h.2
  have e : ((r : Int) + 1) ^ k = (((r + 1) ^ k : Nat) : Int) := by push_cast;rfl
  rw [e];omega
theorem zlA.le {r a k x : Nat} (h : zlA r a k) (hx : x ^ k ≤ a) : x ≤ r := by
 rcases Nat.lt_or_ge r x with q | q
 ·have := Nat.pow_le_pow_left q k
  have := h.2;simp only [Nat.succ_eq_add_one] at *;omega
 ·exact q
theorem zlA.lt {r a k x : Nat} (h : zlA r a k) (hx : a < x ^ k) : r < x := by
 rcases Nat.lt_or_ge r x with q | q
 ·exact q
 ·have := Nat.pow_le_pow_left q k
  have := h.1;omega
theorem zmB {a : Nat} (h : a ≠ 0) : 2 ^ (bitLen a - 1) ≤ a ∧ a < 2 ^ bitLen a := by
 unfold bitLen;rw [if_neg h];exact ⟨Nat.log2_self_le h,Nat.lt_log2_self⟩
theorem zlA.places {r a k : Nat} (h : zlA r a k) (hk : 1 ≤ k) (ha : a ≠ 0) : 2 ^ ((bitLen a - 1) / k) ≤ r ∧ r < 2 ^ ((bitLen a - 1) / k + 1) := by
 obtain ⟨h1,h2⟩ := zmB ha;have hd := Nat.div_add_mod (bitLen a - 1) k;have hm := Nat.mod_lt (bitLen a - 1) hk;have hb : 0 < bitLen a := by unfold bitLen;rw [if_neg ha];omega
 generalize bitLen a = b at *
 constructor
 ·refine h.le (Nat.le_trans ?_ h1)
  rw [← Nat.pow_mul];exact Nat.pow_le_pow_right (by omega) (by rw [Nat.mul_comm];omega)
 ·refine h.lt (Nat.lt_of_lt_of_le h2 ?_)
  rw [← Nat.pow_mul];exact Nat.pow_le_pow_right (by omega) (by rw [Nat.add_mul,Nat.one_mul,Nat.mul_comm];omega)
theorem zlA.upper {r a k s q : Nat} (h : zlA r a k) (hq : zlA q (a / 2 ^ (k * s)) k) : r < (q + 1) * 2 ^ s := by
 refine h.lt ?_;rw [Nat.mul_pow,← Nat.pow_mul,Nat.mul_comm s k];exact Nat.lt_of_lt_of_le (Nat.lt_of_lt_of_eq (Nat.lt_mul_div_succ a (Nat.two_pow_pos (k * s))) (Nat.mul_comm _ _)) (Nat.mul_le_mul_right _ hq.2)
theorem zlA.near {r a k s q : Nat} (h : zlA r a k) (hq : zlA q (a / 2 ^ (k * s)) k) : q * 2 ^ s ≤ r := by
 refine h.le ?_;rw [Nat.mul_pow,← Nat.pow_mul,Nat.mul_comm s k];exact Nat.le_trans (Nat.mul_le_mul_right _ hq.1) (Nat.div_mul_le_self _ _)
theorem zdB (w : World) {ops : Array Oper} {rest : List Oper} {o : Oper} {a : Act} {Q : Exit → Act → World → Prop}
  (hg : o.guard = none) (s x : Operand) (hop : o.op = Op.call { callee := Callee.builtin Builtin.append,args := #[s,x],argTypes := #[25,25] })
  (g N : Nat) (v : Value) (zs xs : List Int) (hs : a.eval s = .slice (some ⟨g,0,none⟩) N N) (hz : WF zs) (hN : zs.length = N) (hrow : Row w g (ws zs)) (hx : a.eval x = v) (hsl : Sl w.heap.size w v xs) (hne : xs ≠ []) (hmx : N + xs.length ≤ 1099511627776)
  (hK : ∀ v' w',Hid (Sl w'.heap.size w' v' (zs ++ xs)) → Hid (Below w.heap.size w w') → wpList Try.prog ops Q rest (a.put o.dst v') w') :
  wpList Try.prog ops Q (o :: rest) a w := by
 obtain ⟨i,hi,hz0,hsz,hb⟩ := info_parts Try.infoW;obtain ⟨hw,ad,cap,rfl,hlc,hcm,hm⟩ := hsl;rcases hm with e | ⟨b,off,h1,h2,h3⟩
 ·exact absurd e hne
 subst h1;have hpos : 0 < xs.length := List.length_pos_iff.2 hne;refine wpList_append_grows w hg s x 25 hop 26 i _ 1 8 Try.underlying25 hi hz0 hsz hb rfl (by omega) (some ⟨g,0,none⟩) N N (ws zs) hs (fun e => by cases e) (by simp [zGA,hN]) (fun b' e => ?_) ⟨b,off,none⟩ xs.length cap (ws xs) hx (by simp [zGA]) ?_ ?_ (by omega) (by unfold maxLen;omega) (by omega) ?_
 ·cases e
  intro j u hj;have hj' : j < zs.length := by
   have := (List.getElem?_eq_some_iff.1 hj).1
   simpa [zGA] using this
  have e : (⟨g,0,none⟩ : Addr).add j = ⟨g,j,none⟩ := by unfold Addr.add;split <;> simp_all
  rw [e,Row.word (r := []) (by simpa using hrow) hj',← hj];simp [ws,hj']
 ·intro j u hj
  have hj' : j < xs.length := by
   have := (List.getElem?_eq_some_iff.1 hj).1
   simpa [zGA] using this
  have e : (⟨b,off,none⟩ : Addr).add j = ⟨b,off + j,none⟩ := by unfold Addr.add;split <;> simp_all
  rw [e,h3 j hj',← hj];simp [ws,hj']
 ·intro u hu
  simp only [ws,List.mem_map] at hu;obtain ⟨y,_,rfl⟩ := hu
  rfl
 ·intro v' w' ho hgr
  refine hK v' w' ?_ ((Below.refl _ _).grown hgr (Nat.le_refl _) (fun k hk => by cases hk));obtain ⟨_,⟨_,h2'⟩ | ⟨g',cap',cur,e2,e3,e4,e5,e6,e7,e8⟩⟩ := ho
  ·omega
  ·subst e2
   have hrw : Row w' g' (ws (zs ++ xs) ++ cur.toList.drop (N + xs.length)) := by
    rw [Nat.mul_one] at e8;have e : ws (zs ++ xs) = cur.toList.take (N + xs.length) := by rw [e8];simp [ws]
    unfold Row;rw [e,List.take_append_drop,Array.toArray_toList];exact e4
   have := zcD (cap := cap') (B := w'.heap.size) hrw (fun y hy => by
    rcases List.mem_append.1 hy with q | q
    ·exact hz y q
    ·exact hw y q) (by simp;omega) (by simp;omega) hrw.lt
   rw [List.length_append,hN] at this;exact this
end Go.Proofs.Ytppddlbkdoebmaa
