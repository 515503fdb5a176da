/-
 QStepDownToBitStep: StepDown, BitPure, BitStep, joined.
-/
import Derived.Test.YtlhjogiefbjklaaQPowerToMWord
import Derived.Test.YtlhjogiefbjklaaQExact0ToRDivMod
import Derived.Deep.LoopGhost

set_option maxRecDepth 100000
set_option maxHeartbeats 6400000
set_option linter.unusedVariables false
set_option linter.unusedSimpArgs false
namespace Go.Proofs.Ytlhjogiefbjklaa
open Go.RowKit
theorem mul_lenR {xs ys zs : List Int} (hx : WF xs) (hy : WF ys) (hz : zEA zs) (h : val zs = val xs * val ys) : zs.length ≤ xs.length + ys.length :=
 zRB hz (by rw [h];exact zOB hx hy)
def zJE (r a : Int) (k : Nat) : Prop := 0 ≤ r ∧ r ^ k ≤ a ∧ a < (r + 1) ^ k
theorem zNF {X Y q r : Int} (h : X = Y * q + r) (h0 : 0 ≤ r) (h1 : r < Y) : X / Y = q := by
 rw [h,Int.add_comm,Int.add_mul_ediv_left _ _ (by omega),Int.ediv_eq_zero_of_lt h0 h1,Int.zero_add]
theorem wid_ne3 {ys : List Int} (h : 0 < val ys) : wid ys ≠ 0 := fun e => by have := zeA ys e;omega
def zeD (B0 : Nat) (w : World) (r : Int) (e : Ending) (w' : World) : Prop := ∃ zs v,e = .returned v ∧ Own B0 w' v zs ∧ zEA zs ∧ val zs = r ∧ Below w.heap.size w w'
def zHE (B0 : Nat) (r : Int) (w : World) (v : Value) (us : List Int) : Prop := Sl w.heap.size w v us ∧ (val us = r → Own B0 w v us)
theorem zHE.sl {B0 : Nat} {r : Int} {w : World} {v : Value} {us : List Int} (h : zHE B0 r w v us) : Sl w.heap.size w v us := h.1
theorem zHE.stay {B0 : Nat} {r : Int} {w w' : World} {v : Value} {us : List Int} (h : zHE B0 r w v us) (b : Below w.heap.size w w') : zHE B0 r w' v us := ⟨h.1.now b,fun e => (h.2 e).stay b⟩
theorem Own.ownIf {B0 : Nat} {r : Int} {w : World} {v : Value} {us : List Int} (h : Own B0 w v us) : zHE B0 r w v us := ⟨h.sl,fun _ => h⟩
theorem stepDown_any {B0 : Nat} {w : World} {va vx : Value} {xs us0 : List Int} {n : Nat} {r : Int} (ha : Sl w.heap.size w va xs) (hx : zHE B0 r w vx us0) (hcu : zEA us0) (hn : 1 ≤ n) (hr1 : 1 ≤ r) (hr : zJE r (val xs) (n + 1)) (hgt : r ≤ val us0) (lx : xs.length ≤ 1099511627776) (lu : us0.length ≤ 1073741824) (lun : us0.length * n ≤ 8589934592) (hn32 : n + 1 < 4294967296) (hB : B0 ≤ w.heap.size) :
  Calls Try.prog 81 #[va,vx,.int .i64 ((n : Int) + 1)] w (zeD B0 w r) := by
 have HA := hid ha;have HX := hid hx;have HR := hid hr;have WA := hid ha.1;have a0 := hid (val_nonneg ha.1);clear ha hx hr;go_enter Try.func81,Try.ntmps81;go_wp2_with fail
 go_loopg [1] (val us0).toNat (fun g s1 wx => ∃ us : List Int,(g : Int) = val us ∧ Hid (zHE B0 r wx s1 us) ∧ Hid (zEA us) ∧ r ≤ val us ∧ us.length ≤ us0.length ∧ Hid (Below w.heap.size w wx))
 case atStart => exact ⟨us0,Int.toNat_of_nonneg (by omega),HX,hcu,hgt,Nat.le_refl _,Below.refl _ _⟩
 case round =>
  clear HX hcu hgt;obtain ⟨us,hg,OU,CU,hge,hlu,KK⟩ := hrel;have hun : us.length * n ≤ us0.length * n := Nat.mul_le_mul_right _ hlu;have HP := hid (zuD (n := n) OU.out.sl (by omega) (by omega) (by omega));have u0 : 0 < val us := by omega
  have ek : (n : Int) + 1 - 1 = (n : Int) := by omega
  have X0 := val_nonneg CU.out.1;have X1 := hid (zVA CU.out.1);go_wp2_with fail;refine HP.out.mono ?_;rintro e w1 ⟨ps,vp,rfl,mp,cp,ep,b1⟩;have lp := zuC X0 X1.out cp ep;have pp : 0 < val ps := by rw [ep];exact Int.pow_pos u0
  have K1 := hid (zAA KK.out b1);have HD := hid (zrB (HA.out.now K1.out) mp.sl (wid_ne3 pp) lx (by omega));have EP := hid ep;have OU1 := hid (OU.out.stay b1);clear HP mp b1 ep;go_wp2_with fail;refine HD.out.mono ?_;rintro e w2 ⟨qs,rs,vq,vr,rfl,oq,or',cq,cr,ev,hlt,hlq,hlr,_,b2⟩;have K2 := hid (zAA K1.out b2);have HQ : Hid (val xs / val us ^ n = val qs) := by unfold Hid;rw [← EP.out];exact zNF ev (val_nonneg cr.1) hlt
  have OU2 := hid (OU1.out.stay b2);have SQ2 := hid oq.sl;have HW := hid (zAC OU2.out.sl (W := (n : Int)) (by unfold IsW wB;omega) (by omega));obtain ⟨qa,qc,rfl⟩ := oq.form;obtain ⟨ra,rc,rfl⟩ := or'.form;have ew : IntKind.u64.wrap (n : Int) = (n : Int) := by rw [IntKind.wrap_u64];omega
  have ew1 : IntKind.u64.wrap ((n : Int) + 1) = (n : Int) + 1 := by rw [IntKind.wrap_u64];omega
  clear HD oq or' cr ev hlt hlr b2 OU1 EP;go_wp2_with fail;refine HW.out.mono ?_;rintro e w3 ⟨ts,vt,rfl,mt,ct,et,b3⟩;have lt := mul_lenR (ys := [(n : Int)]) CU.out.1 (WF.cons (by unfold IsW wB;omega) WF.nil) ct (by rw [et];simp [val]);simp only [List.length_cons,List.length_nil] at lt;have K3 := hid (zAA K2.out b3);have OU3 := hid (OU2.out.stay b3);have HS := hid (zlB mt.sl (SQ2.out.now b3) (by omega) (by omega));have ET := hid et;clear HW mt b3 et OU2 SQ2;go_wp2_with fail;refine HS.out.mono ?_;rintro e w4 ⟨ss,vs,rfl,ssl,cs,es,_,b4⟩;have K4 := hid (zAA K3.out b4);have OU4 := hid (OU3.out.stay b4);have HDW := hid (zsA (W := (n : Int) + 1) ssl (by unfold IsW wB;omega) (by omega));have ES := hid es;clear HS ssl b4 es OU3;go_wp2_with fail;refine HDW.out.mono ?_;rintro e w5 ⟨ns,vn',rn,rfl,on,cn,hrw,hrl,env,hln,b5⟩;have K5 := hid (zAA K4.out b5);have OU5 := hid (OU4.out.stay b5);have HNV : Hid (val ns = ((n : Int) * val us + val xs / val us ^ n) / ((n : Int) + 1)) := by
   unfold Hid;rw [HQ.out,Int.mul_comm,← ET.out,← ES.out];exact (zNF env hrw.1 hrl).symm
  have HC := hid (zJD on.sl OU5.out.sl);have ON := hid (on.lower (B' := B0) (by have := K4.out.size;omega));obtain ⟨na,nc,rfl⟩ := on.form;clear HDW on b5 env OU4 hrw hrl
  by_cases hcmp : val us ≤ val ns
  ·have hc := zZB hcmp
   have hur : val us = r := by
    rcases Int.lt_or_eq_of_le hge with t | t
    ·have := zyC (n := n) u0 HR.out.1 a0.out HR.out.2.2 t
     rw [← HNV.out] at this;omega
    ·exact t.symm
   have HUR := hid hur;generalize cmpI (val ns) (val us) = CC at *;have hc2 : 0 ≤ CC := by omega
   clear hur hcmp hg;go_wp2_with fail;refine HC.out.mono ?_;rintro e w6 ⟨rfl,b6⟩;have K6 := hid (zAA K5.out b6);have OU6 := hid (OU5.out.stay b6);clear HC b6;go_wp2;go_ret;exact ⟨us,_,rfl,OU6.out.2 HUR.out,CU.out,HUR.out,K6.out⟩
  ·have hc := ziC (show val ns < val us by omega)
   have hnr : r ≤ val ns := by rw [HNV.out];exact zYD (n := n) u0 HR.out.1 HR.out.2.1
   have hll := zPA cn CU.out (by omega);generalize cmpI (val ns) (val us) = CC at *;have hc2 : ¬ 0 ≤ CC := by omega
   have HG2 : Hid (((val ns).toNat : Int) = val ns ∧ (val ns).toNat < gk) := ⟨Int.toNat_of_nonneg (by omega),by omega⟩
   clear hcmp hg;go_wp2_with fail;refine HC.out.mono ?_;rintro e w6 ⟨rfl,b6⟩;have K6 := hid (zAA K5.out b6);have ON6 := hid ((ON.out.stay b6).ownIf (r := r));clear HC b6;go_wp2_with fail;go_roundg (val ns).toNat
   case rel => exact ⟨ns,HG2.out.1,ON6,cn,hnr,by omega,K6⟩
   case measure => exact HG2.out.2
theorem or_bit {z p : Nat} (hz : z % 2 ^ (p + 1) = 0) : z ||| 2 ^ p = z + 2 ^ p := by
 obtain ⟨q,hq⟩ := Nat.dvd_of_mod_eq_zero hz;subst hq;exact (Nat.two_pow_add_eq_or_of_lt (Nat.pow_lt_pow_right (by omega) (by omega)) q).symm
theorem bits_or_bit {z p : Nat} (hz : z % 2 ^ (p + 1) = 0) (hzw : z < 18446744073709551616) (hp : p < 64) : bits .or .u64 (z : Int) ((2 ^ p : Nat) : Int) = ((z + 2 ^ p : Nat) : Int) := by
 have h2 : 2 ^ p < 18446744073709551616 := Nat.lt_of_lt_of_le (Nat.pow_lt_pow_right (by omega) hp) (by decide : 2 ^ 64 ≤ 18446744073709551616);rw [zaB _ _ hzw h2,or_bit hz]
theorem bits_andNot_bit {z p : Nat} (hz : z % 2 ^ (p + 1) = 0) (hzw : z + 2 ^ p < 18446744073709551616) (hp : p < 64) : bits .andNot .u64 ((z + 2 ^ p : Nat) : Int) ((2 ^ p : Nat) : Int) = (z : Int) := by
 have h2 : 2 ^ p < 18446744073709551616 := by omega
 have h1 : (BitVec.ofInt 64 ((z + 2 ^ p : Nat) : Int)).toNat = z + 2 ^ p := by
  rw [BitVec.ofInt_natCast,BitVec.toNat_ofNat];exact Nat.mod_eq_of_lt (by omega)
 have h3 : (BitVec.ofInt 64 ((2 ^ p : Nat) : Int)).toNat = 2 ^ p := by
  rw [BitVec.ofInt_natCast,BitVec.toNat_ofNat];exact Nat.mod_eq_of_lt (by omega)
 have key : (BitVec.ofInt 64 ((z + 2 ^ p : Nat) : Int) &&& ~~~ BitVec.ofInt 64 ((2 ^ p : Nat) : Int)) = BitVec.ofNat 64 z := by
  apply BitVec.eq_of_getLsbD_eq
  intro i hi;rw [BitVec.getLsbD_and,BitVec.getLsbD_not];simp only [BitVec.getLsbD,h1,h3,BitVec.toNat_ofNat];rw [← or_bit hz,Nat.testBit_or,Nat.mod_eq_of_lt (show z < 2 ^ 64 by omega)]
  by_cases hip : i = p
  ·subst hip
   have : z.testBit i = false := by
    rw [Nat.testBit_eq_decide_div_mod_eq];obtain ⟨q,rfl⟩ := Nat.dvd_of_mod_eq_zero hz;rw [Nat.pow_succ,Nat.mul_assoc,Nat.mul_div_cancel_left _ (Nat.two_pow_pos i)]
    simp
   simp [this,Nat.testBit_two_pow_self]
  ·rw [Nat.testBit_two_pow_of_ne (by omega)]
   simp [hi]
 show IntKind.u64.wrap ((BitVec.ofInt 64 ((z + 2 ^ p : Nat) : Int) &&& ~~~ BitVec.ofInt 64 ((2 ^ p : Nat) : Int)).toNat : Int) = _
 rw [key,BitVec.toNat_ofNat,Nat.mod_eq_of_lt (show z < 2 ^ 64 by omega),IntKind.wrap_u64];omega
theorem word_low {R : List Int} (hR : WF R) {j N : Nat} (hj : j / 64 < R.length) (h : vn R = N * 2 ^ (j + 1)) : (R[j / 64]).toNat % 2 ^ (j % 64 + 1) = 0 := by
 have e : R = R.take (j / 64) ++ (R[j / 64] :: R.drop (j / 64 + 1)) := by rw [← List.drop_eq_getElem_cons hj,List.take_append_drop]
 have hl : (R.take (j / 64)).length = j / 64 := by simp;omega
 have hA := znD (hR.take (j / 64));rw [hl] at hA;have ev : vn R = vn (R.take (j / 64)) + 2 ^ (64 * (j / 64)) * ((R[j / 64]).toNat + 2 ^ 64 * vn (R.drop (j / 64 + 1))) := by
  conv => lhs;rw [e]
  rw [zBC,hl]
  rfl
 generalize (R[j / 64]).toNat = z at *;generalize vn (R.drop (j / 64 + 1)) = C at *;generalize vn (R.take (j / 64)) = A at *;have hs : 2 ^ (j + 1) = 2 ^ (64 * (j / 64)) * 2 ^ (j % 64 + 1) := by rw [← Nat.pow_add];congr 1;omega
 have h64 : 2 ^ 64 = 2 ^ (j % 64 + 1) * 2 ^ (63 - j % 64) := by rw [← Nat.pow_add];congr 1;omega
 rw [h,hs,Nat.mul_left_comm] at ev;have hP := Nat.two_pow_pos (64 * (j / 64));generalize 2 ^ (64 * (j / 64)) = P at *;generalize 2 ^ (j % 64 + 1) = Q at *;have h0 : (P * (N * Q)) / P = (A + P * (z + 2 ^ 64 * C)) / P := by rw [ev]
 rw [Nat.mul_div_cancel_left _ hP,Nat.add_mul_div_left _ _ hP,Nat.div_eq_of_lt hA,Nat.zero_add,h64,Nat.mul_assoc] at h0;have h1 : z = N * Q - Q * (2 ^ (63 - j % 64) * C) := by omega
 have h2 : (N * Q) % Q = 0 := Nat.mul_mod_left _ _;rw [h0,Nat.add_mul_mod_self_left] at h2;exact h2
theorem zsE : ∀ (xs : List Int) (i : Nat) (z : Int) (h : i < xs.length),val (xs.set i z) = val xs + (z - xs[i]) * pw i
 | [],i,z,h => absurd h (by simp)
 | x :: xs,0,z,h => by simp [val,pw];omega
 | x :: xs,i + 1,z,h => by
  have ih := zsE xs i z (by simpa using h);simp only [List.set_cons_succ,val,List.getElem_cons_succ,ih];rw [show pw (i + 1) = wB * pw i from rfl,Int.mul_add,← Int.add_assoc]
  congr 1
  rw [Int.mul_left_comm]
def zZC (r : Nat) (L : Nat) (j : Nat) (R : List Int) : Prop := R.length = L ∧ WF R ∧ vn R = r / 2 ^ j * 2 ^ j
theorem zlE (r j : Nat) : r / 2 ^ j = 2 * (r / 2 ^ (j + 1)) + r / 2 ^ j % 2 := by
 rw [Nat.pow_succ,← Nat.div_div_eq_div_mul];omega
theorem zZC.put {r L j : Nat} {R : List Int} (h : zZC r L (j + 1) R) (hj : j / 64 < R.length) :
  ∃ z : Nat,R[j / 64] = (z : Int) ∧ z % 2 ^ (j % 64 + 1) = 0 ∧ z + 2 ^ (j % 64) < 18446744073709551616 ∧ WF (R.set (j / 64) ((z + 2 ^ (j % 64) : Nat) : Int)) ∧ vn (R.set (j / 64) ((z + 2 ^ (j % 64) : Nat) : Int)) = (2 * (r / 2 ^ (j + 1)) + 1) * 2 ^ j := by
 obtain ⟨h1,h2,h3⟩ := h;have hw : IsW R[j / 64] := h2 _ (List.getElem_mem hj);unfold IsW wB at hw;have hz := word_low h2 hj h3;have hp : 2 ^ (j % 64 + 1) * 2 ^ (63 - j % 64) = 18446744073709551616 := by rw [← Nat.pow_add,show j % 64 + 1 + (63 - j % 64) = 64 by omega]
 have hP := Nat.two_pow_pos (j % 64);have hlt : R[j / 64].toNat + 2 ^ (j % 64) < 18446744073709551616 := by
  obtain ⟨q,hq⟩ := Nat.dvd_of_mod_eq_zero hz;have hlt0 : R[j / 64].toNat < 18446744073709551616 := by omega
  rw [hq] at hlt0 ⊢;rw [← hp] at hlt0 ⊢;have hq2 : q < 2 ^ (63 - j % 64) := Nat.lt_of_mul_lt_mul_left hlt0;have := Nat.mul_le_mul_left (2 ^ (j % 64 + 1)) hq2;rw [Nat.mul_succ] at this;rw [Nat.pow_succ] at this ⊢;omega
 have hwf : WF (R.set (j / 64) ((R[j / 64].toNat + 2 ^ (j % 64) : Nat) : Int)) := h2.set _ (by unfold IsW wB;omega);refine ⟨R[j / 64].toNat,by omega,hz,hlt,hwf,?_⟩;have hv := zsE R (j / 64) ((R[j / 64].toNat + 2 ^ (j % 64) : Nat) : Int) hj;rw [zMA hwf,zMA h2,show ((R[j / 64].toNat + 2 ^ (j % 64) : Nat) : Int) - R[j / 64] = ((2 ^ (j % 64) : Nat) : Int) by omega] at hv;have hpw : pw (j / 64) = ((2 ^ (64 * (j / 64)) : Nat) : Int) := by rw [ztB];push_cast;rfl
 rw [hpw,← Int.natCast_mul,← Int.natCast_add] at hv;have hv2 := Int.ofNat.inj hv;rw [hv2,h3,← Nat.pow_add,show j % 64 + 64 * (j / 64) = j by omega,Nat.pow_succ,Nat.add_mul,Nat.one_mul]
 congr 1
 rw [Nat.mul_comm (2 ^ j) 2,← Nat.mul_assoc,Nat.mul_comm (_ / _) 2]
theorem bit_in {r j : Nat} (h : (2 * (r / 2 ^ (j + 1)) + 1) * 2 ^ j ≤ r) : (2 * (r / 2 ^ (j + 1)) + 1) = r / 2 ^ j := by
 have h1 := (Nat.le_div_iff_mul_le (Nat.two_pow_pos j)).2 h;have := zlE r j;omega
theorem bit_out {r j : Nat} (h : r < (2 * (r / 2 ^ (j + 1)) + 1) * 2 ^ j) : r / 2 ^ (j + 1) * 2 ^ (j + 1) = r / 2 ^ j * 2 ^ j := by
 have h1 := (Nat.div_lt_iff_lt_mul (Nat.two_pow_pos j)).2 h;have h2 := zlE r j;have h3 : r / 2 ^ j = 2 * (r / 2 ^ (j + 1)) := by omega
 rw [h3,Nat.pow_succ,Nat.mul_comm (2 ^ j) 2,← Nat.mul_assoc,Nat.mul_comm (_ / _) 2]
theorem zZC.zero {r L P : Nat} (h : r < 2 ^ P) : zZC r L P (List.replicate L 0) := by
 refine ⟨by simp,fun x hx => by rw [List.eq_of_mem_replicate hx];unfold IsW wB;omega,?_⟩;rw [Nat.div_eq_of_lt h,Nat.zero_mul]
 induction L with
 | zero => rfl
 | succ n ih => rw [List.replicate_succ];show (0 : Int).toNat + _ * _ = 0;rw [ih];rfl
theorem pow_above {x r a : Int} {k : Nat} (hr : zJE r a k) (h : r < x) : a < x ^ k :=
 Int.lt_of_lt_of_le hr.2.2 (zgB (by have := hr.1;omega) (by omega) k)
theorem pow_not_above {x r a : Int} {k : Nat} (hr : zJE r a k) (h0 : 0 ≤ x) (h : x ≤ r) : x ^ k ≤ a :=
 Int.le_trans (zgB h0 h k) hr.2.1
end Go.Proofs.Ytlhjogiefbjklaa
