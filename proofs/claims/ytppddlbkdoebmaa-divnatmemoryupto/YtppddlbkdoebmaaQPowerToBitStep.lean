/-
 QPowerToBitStep: Power, MWord, StepDown, BitPure, BitStep, joined.
-/
import Derived.Test.YtppddlbkdoebmaaQMulAllToPow
import Derived.Test.YtppddlbkdoebmaaQDivMod
import Derived.Test.YtppddlbkdoebmaaQExact0ToRDivMod
import Derived.Deep.LoopGhost

set_option maxRecDepth 100000
set_option maxHeartbeats 6400000
set_option linter.unusedVariables false
set_option linter.unusedSimpArgs false
namespace Go.Proofs.Ytppddlbkdoebmaa
open Go.RowKit
theorem amgm {x r : Int} (hx : 0 ≤ x) (hr : 0 ≤ r) : ∀ n : Nat,((n : Int) + 1) * (r * x ^ n) ≤ (n : Int) * x ^ (n + 1) + r ^ (n + 1)
 | 0 => by simp [Int.pow_succ]
 | n + 1 => by
  have ih := amgm hx hr n;have h1 := Int.mul_le_mul_of_nonneg_right ih hr;have hp : 0 ≤ x ^ n := Int.pow_nonneg hx;have hs : 0 ≤ (x - r) * (x - r) := by
   rcases Int.le_total 0 (x - r) with h | h
   ·exact Int.mul_nonneg h h
   ·exact Int.mul_nonneg_of_nonpos_of_nonpos h h
  have h2 := Int.mul_nonneg (Int.mul_nonneg (show (0 : Int) ≤ (n : Int) + 1 by omega) hp) hs;rw [Int.pow_succ x (n + 1),Int.pow_succ x n,Int.pow_succ r (n + 1),Int.pow_succ r n];rw [Int.pow_succ x n,Int.pow_succ r n] at h1;generalize x ^ n = X at *;generalize r ^ n = R at *
  push_cast
  generalize (n : Int) = m at *
  grind
theorem zFC {x y : Int} (hx : 0 ≤ x) (h : x ≤ y) : ∀ n : Nat,x ^ n ≤ y ^ n
 | 0 => by simp
 | n + 1 => by
  rw [Int.pow_succ,Int.pow_succ];exact Int.mul_le_mul (zFC hx h n) h hx (Int.pow_nonneg (by omega))
theorem zNE {a x r : Int} {n : Nat} (hx : 0 < x) (hr : 0 ≤ r) (h : r ^ (n + 1) ≤ a) : r ≤ ((n : Int) * x + a / x ^ n) / ((n : Int) + 1) := by
 have hk : (0 : Int) < (n : Int) + 1 := by omega
 rw [Int.le_ediv_iff_mul_le hk];have hp : 0 < x ^ n := Int.pow_pos hx;have h2 : r * ((n : Int) + 1) - (n : Int) * x ≤ a / x ^ n := by
  rw [Int.le_ediv_iff_mul_le hp];have h1 := amgm (Int.le_of_lt hx) hr n;rw [Int.pow_succ x n] at h1;rw [Int.sub_mul];generalize x ^ n = X at *;have e1 : r * ((n : Int) + 1) * X = ((n : Int) + 1) * (r * X) := by grind
  have e2 : (n : Int) * x * X = (n : Int) * (X * x) := by grind
  rw [e1,e2];omega
 omega
theorem zhD {a x r : Int} {n : Nat} (hx : 0 < x) (hr : 0 ≤ r) (ha : 0 ≤ a) (h : a < (r + 1) ^ (n + 1)) (hxr : r < x) : ((n : Int) * x + a / x ^ n) / ((n : Int) + 1) < x := by
 have hk : (0 : Int) < (n : Int) + 1 := by omega
 have hp : 0 < x ^ n := Int.pow_pos hx;have h1 := zFC (x := r + 1) (y := x) (by omega) (by omega) (n + 1);rw [Int.pow_succ x n] at h1;have h2 : a / x ^ n < x := Int.ediv_lt_of_lt_mul hp (by rw [Int.mul_comm];omega);refine Int.ediv_lt_of_lt_mul hk ?_;have e : x * ((n : Int) + 1) = (n : Int) * x + x := by grind
 have e' : ((n : Int) + 1) * x = (n : Int) * x + x := by grind
 first | (rw [e];omega) | (rw [e'];omega)
theorem pow_half (X : Int) (n : Nat) : X ^ n = if n % 2 = 1 then X ^ (n / 2) * X ^ (n / 2) * X else X ^ (n / 2) * X ^ (n / 2) := by
 split
 ·rename_i h
  rw [← Int.pow_add,← Int.pow_succ]
  congr 1
  omega
 ·rename_i h
  rw [← Int.pow_add]
  congr 1
  omega
def zsG (N : Nat) : Prop := ∀ (w : World) (va : Value) (xs : List Int) (n : Nat),Sl w.heap.size w va xs → xs.length ≤ 1073741824 → xs.length * n ≤ 8589934592 → n < 4294967296 → n < N → Calls Try.prog 91 #[va,.int .i64 (n : Int)] w (zMB w (val xs ^ n))
theorem power_step {w : World} {va : Value} {xs : List Int} {n : Nat} (ha : Sl w.heap.size w va xs) (lx : xs.length ≤ 1073741824) (ln : xs.length * n ≤ 8589934592) (hn32 : n < 4294967296) (IH : zsG n) : Calls Try.prog 91 #[va,.int .i64 (n : Int)] w (zMB w (val xs ^ n)) := by
 by_cases hn : n ≤ 256
 ·have HP := pow_some ha lx hn
  have z : (n : Int) ≤ 256 := by omega
  clear ha IH;go_enter Try.func91,Try.ntmps91;go_wp2_with fail;refine HP.mono ?_;rintro e w1 ⟨zs,r,rfl,m1,c1,v1,b1⟩;have M1 := hid m1;have B1 := hid b1;clear HP m1 b1;go_wp2;go_ret;exact ⟨zs,r,rfl,M1.out,c1,v1,B1.out⟩
 ·have z : ¬ (n : Int) ≤ 256 := by omega
  have e2 : (n : Int) / 2 = ((n / 2 : Nat) : Int) := by omega
  have hl2 : xs.length * (n / 2) ≤ xs.length * n := Nat.mul_le_mul_left _ (Nat.div_le_self _ _);have HP := hid (IH w va xs (n / 2) ha lx (by omega) (by omega) (by omega));have X0 := hid (val_nonneg ha.1);have X1 := hid (zXA ha.1);have HA := hid ha;have PH := hid (pow_half (val xs) n);obtain ⟨h,hh⟩ : ∃ h,n / 2 = h := ⟨_,rfl⟩
  rw [hh] at HP e2 hl2 PH;clear ha IH hh;go_enter Try.func91,Try.ntmps91;go_wp2_with fail;refine HP.out.mono ?_;rintro e w1 ⟨zs,r,rfl,m1,c1,v1,b1⟩;have l1 := zeD X0.out X1.out c1 v1;have HS := hid (zPC m1.sl (by omega));have V1 := hid v1;have B1 := hid b1;clear HP v1 b1;go_wp2_with fail;refine HS.out.mono ?_;rintro e w2 ⟨zs2,r2,rfl,m2,c2,v2,b2⟩;have l2 := zeD (e := h + h) X0.out X1.out c2 (by rw [v2,V1.out,← Int.pow_add]);have hl3 : xs.length * (h + h) ≤ 2 * (xs.length * n) := by rw [Nat.mul_add];omega
  have V2 := hid v2;have B2 := hid (zAA B1.out b2);have M2 := hid (m2.mono B1.out.size);clear HS m1 v2 b2
  by_cases hodd : n % 2 = 1
  ·have z2 : ((n : Int) % 2 == 1) = true := by rw [beq_iff_eq];omega
   have z3 : (n : Int) % 2 = 1 := by omega
   have HM := hid (zRF m2.sl (HA.out.now B2.out) (by omega));clear m2;go_wp2_with fail;refine HM.out.mono ?_;rintro e w3 ⟨zs3,r3,rfl,m3,c3,v3,b3⟩;have M3 := hid (m3.mono B2.out.size);have B3 := hid (zAA B2.out b3);have V3 := hid v3;clear HM m3 b3 v3;go_wp2;go_ret;exact ⟨zs3,r3,rfl,M3.out,c3,by rw [V3.out,V2.out,V1.out,PH.out,if_pos hodd],B3.out⟩
  ·have z2 : ((n : Int) % 2 == 1) = false := by rw [beq_eq_false_iff_ne];omega
   clear m2;go_wp2;go_ret;exact ⟨zs2,r2,rfl,M2.out,c2,by rw [V2.out,V1.out,PH.out,if_neg hodd],B2.out⟩
theorem zfF : ∀ N,zsG N
 | 0 => fun w va xs n _ _ _ _ h => by omega
 | N + 1 => fun w va xs n ha lx ln h32 h => power_step ha lx ln h32 (fun w' va' xs' n' ha' lx' ln' h32' h' => zfF N w' va' xs' n' ha' lx' ln' h32' (by omega))
theorem zvE {w : World} {va : Value} {xs : List Int} {n : Nat} (ha : Sl w.heap.size w va xs) (lx : xs.length ≤ 1073741824) (ln : xs.length * n ≤ 8589934592) (h32 : n < 4294967296) : Calls Try.prog 91 #[va,.int .i64 (n : Int)] w (zMB w (val xs ^ n)) :=
 zfF _ w va xs n ha lx ln h32 (Nat.lt_succ_self _)
theorem zfC {w : World} {va : Value} {xs : List Int} (ha : Sl w.heap.size w va xs) {W : Int} (hW : IsW W) (hl : xs.length < 35184372088832) :
  Calls Try.prog 85 #[va,.int .u64 W] w (zMB w (val xs * W)) := by
 obtain ⟨a,ca,rfl⟩ : ∃ a ca,va = .slice a xs.length ca := by obtain ⟨_,a,ca,e,_⟩ := ha;exact ⟨a,ca,e⟩
 have HT1 := hid (zTB ha);have l1 := zIA xs;have SX := hid (ha.taken l1)
 change Hid (Sl w.heap.size w _ (lst xs)) at SX
 have CX := hid (canon_lst ha.1);have LX := hid (length_lst xs);rw [← val_lst xs];generalize lst xs = X at *;generalize wid xs = n at *;clear ha;have HW := hid hW;go_enter Try.func85,Try.ntmps85;go_wp2_with fail;refine HT1.out.mono ?_;rintro e w1 ⟨rfl,rfl⟩;clear HT1;go_wp2_with (at_make;refine wpList_make_words _ rfl _ _ rfl _ _ (n + 1) (n + 1) rfl rfl (by omega) (by omega) (Nat.le_refl _) (by omega) ?_)
 intro w2 hrow hb2 hsz2;have HA := hid (zHD (o := 0) (len := n + 1) (cap := n + 1) (r := []) (zOC (n + 1)) (by simpa using hrow) (by simp;omega) (SX.out.below hb2 (Nat.le_refl _)) HW.out (by rw [LX.out];simp) (by rw [LX.out];omega));rw [LX.out] at HA;have HB2 := hid hb2;clear hrow hb2 hsz2;go_wp2_with fail;refine HA.out.mono ?_;rintro e w3 ⟨zs',c,rfl,hzl,hwz',hc,hv,hd,hr3,hb3⟩;rw [Nat.zero_add] at hv hd;have hzl' : zs'.length = n + 1 := by rw [hzl];simp
 have D3 : zs'.drop n = List.replicate (0 + 1) 0 := by rw [hd];simp
 obtain ⟨hk3,hz3⟩ := zrC D3;have c3 : w3.cell? ⟨w1.heap.size,n,none⟩ = some (.int .u64 zs'[n]) := hr3.word hk3;have cf : w3.frozen? ⟨w1.heap.size,n,none⟩ = false := hr3.frozen _;have HV4 : Hid (val (zs'.set n c) = val X * W) := by
  unfold Hid;rw [zIB zs' n c hk3,hz3];rw [zBC] at hv;have : pw 0 = 1 := rfl;rw [this] at hv
  grind
 have HR4 := hid (hr3.setWord hk3 c);have HB4 := hid ((HB2.out.trans hb3).setCell (p := ⟨w1.heap.size,n,none⟩) (Nat.le_refl _) (.int .u64 c));have HW4 := hid (hwz'.set n hc);have HL4 : Hid ((zs'.set n c).length = n + 1) := by unfold Hid;rw [List.length_set,hzl']
 generalize zs'[n] = z at *;generalize zs'.set n c = zs'' at *;clear hd D3 hr3 hb3 hv hzl hwz' HA HB2 hzl';go_wp2_with fail;have hr5 : Row (w3.setCell ⟨w1.heap.size,n,none⟩ (.int .u64 c)) w1.heap.size (ws zs'') := by simpa using HR4.out
 have hsl := Row.sl (r := []) (by simpa using hr5) HW4.out (cap := n + 1) (by rw [HL4.out];exact Nat.le_refl _) (by omega) hr5.lt;rw [HL4.out] at hsl;refine (zTB hsl).mono ?_;rintro e w5 ⟨rfl,rfl⟩;go_wp2;go_ret;exact ⟨lst zs'',_,rfl,trim_mine (Nat.le_refl _) HW4.out (by rw [HL4.out];omega) hr5,canon_lst HW4.out,by rw [val_lst];exact HV4.out,HB4.out⟩
theorem mul_lenR {xs ys zs : List Int} (hx : WF xs) (hy : WF ys) (hz : zFA zs) (h : val zs = val xs * val ys) : zs.length ≤ xs.length + ys.length :=
 zlB hz (by rw [h];exact zhB hx hy)
def zNF (r a : Int) (k : Nat) : Prop := 0 ≤ r ∧ r ^ k ≤ a ∧ a < (r + 1) ^ k
theorem ziG {X Y q r : Int} (h : X = Y * q + r) (h0 : 0 ≤ r) (h1 : r < Y) : X / Y = q := by
 rw [h,Int.add_comm,Int.add_mul_ediv_left _ _ (by omega),Int.ediv_eq_zero_of_lt h0 h1,Int.zero_add]
theorem wid_ne3 {ys : List Int} (h : 0 < val ys) : wid ys ≠ 0 := fun e => by have := zmA ys e;omega
def zUE (B0 : Nat) (w : World) (r : Int) (e : Ending) (w' : World) : Prop := ∃ zs v,e = .returned v ∧ Own B0 w' v zs ∧ zFA zs ∧ val zs = r ∧ Below w.heap.size w w'
def zLF (B0 : Nat) (r : Int) (w : World) (v : Value) (us : List Int) : Prop := Sl w.heap.size w v us ∧ (val us = r → Own B0 w v us)
theorem zLF.sl {B0 : Nat} {r : Int} {w : World} {v : Value} {us : List Int} (h : zLF B0 r w v us) : Sl w.heap.size w v us := h.1
theorem zLF.stay {B0 : Nat} {r : Int} {w w' : World} {v : Value} {us : List Int} (h : zLF B0 r w v us) (b : Below w.heap.size w w') : zLF B0 r w' v us := ⟨h.1.now b,fun e => (h.2 e).stay b⟩
theorem Own.ownIf {B0 : Nat} {r : Int} {w : World} {v : Value} {us : List Int} (h : Own B0 w v us) : zLF B0 r w v us := ⟨h.sl,fun _ => h⟩
theorem stepDown_any {B0 : Nat} {w : World} {va vx : Value} {xs us0 : List Int} {n : Nat} {r : Int} (ha : Sl w.heap.size w va xs) (hx : zLF B0 r w vx us0) (hcu : zFA us0) (hn : 1 ≤ n) (hr1 : 1 ≤ r) (hr : zNF r (val xs) (n + 1)) (hgt : r ≤ val us0) (lx : xs.length ≤ 1099511627776) (lu : us0.length ≤ 1073741824) (lun : us0.length * n ≤ 8589934592) (hn32 : n + 1 < 4294967296) (hB : B0 ≤ w.heap.size) :
  Calls Try.prog 81 #[va,vx,.int .i64 ((n : Int) + 1)] w (zUE B0 w r) := by
 have HA := hid ha;have HX := hid hx;have HR := hid hr;have WA := hid ha.1;have a0 := hid (val_nonneg ha.1);clear ha hx hr;go_enter Try.func81,Try.ntmps81;go_wp2_with fail
 go_loopg [1] (val us0).toNat (fun g s1 wx => ∃ us : List Int,(g : Int) = val us ∧ Hid (zLF B0 r wx s1 us) ∧ Hid (zFA us) ∧ r ≤ val us ∧ us.length ≤ us0.length ∧ Hid (Below w.heap.size w wx))
 case atStart => exact ⟨us0,Int.toNat_of_nonneg (by omega),HX,hcu,hgt,Nat.le_refl _,Below.refl _ _⟩
 case round =>
  clear HX hcu hgt;obtain ⟨us,hg,OU,CU,hge,hlu,KK⟩ := hrel;have hun : us.length * n ≤ us0.length * n := Nat.mul_le_mul_right _ hlu;have HP := hid (zvE (n := n) OU.out.sl (by omega) (by omega) (by omega));have u0 : 0 < val us := by omega
  have ek : (n : Int) + 1 - 1 = (n : Int) := by omega
  have X0 := val_nonneg CU.out.1;have X1 := hid (zXA CU.out.1);go_wp2_with fail;refine HP.out.mono ?_;rintro e w1 ⟨ps,vp,rfl,mp,cp,ep,b1⟩;have lp := zeD X0 X1.out cp ep;have pp : 0 < val ps := by rw [ep];exact Int.pow_pos u0
  have K1 := hid (zAA KK.out b1);have HD := hid (zTC (HA.out.now K1.out) mp.sl (wid_ne3 pp) lx (by omega));have EP := hid ep;have OU1 := hid (OU.out.stay b1);clear HP mp b1 ep;go_wp2_with fail;refine HD.out.mono ?_;rintro e w2 ⟨qs,rs,vq,vr,rfl,oq,or',cq,cr,ev,hlt,hlq,hlr,_,b2⟩;have K2 := hid (zAA K1.out b2);have HQ : Hid (val xs / val us ^ n = val qs) := by unfold Hid;rw [← EP.out];exact ziG ev (val_nonneg cr.1) hlt
  have OU2 := hid (OU1.out.stay b2);have SQ2 := hid oq.sl;have HW := hid (zfC OU2.out.sl (W := (n : Int)) (by unfold IsW wB;omega) (by omega));obtain ⟨qa,qc,rfl⟩ := oq.form;obtain ⟨ra,rc,rfl⟩ := or'.form;have ew : IntKind.u64.wrap (n : Int) = (n : Int) := by rw [IntKind.wrap_u64];omega
  have ew1 : IntKind.u64.wrap ((n : Int) + 1) = (n : Int) + 1 := by rw [IntKind.wrap_u64];omega
  clear HD oq or' cr ev hlt hlr b2 OU1 EP;go_wp2_with fail;refine HW.out.mono ?_;rintro e w3 ⟨ts,vt,rfl,mt,ct,et,b3⟩;have lt := mul_lenR (ys := [(n : Int)]) CU.out.1 (WF.cons (by unfold IsW wB;omega) WF.nil) ct (by rw [et];simp [val]);simp only [List.length_cons,List.length_nil] at lt;have K3 := hid (zAA K2.out b3);have OU3 := hid (OU2.out.stay b3);have HS := hid (zLC mt.sl (SQ2.out.now b3) (by omega) (by omega));have ET := hid et;clear HW mt b3 et OU2 SQ2;go_wp2_with fail;refine HS.out.mono ?_;rintro e w4 ⟨ss,vs,rfl,ssl,cs,es,_,b4⟩;have K4 := hid (zAA K3.out b4);have OU4 := hid (OU3.out.stay b4);have HDW := hid (zEB (W := (n : Int) + 1) ssl (by unfold IsW wB;omega) (by omega));have ES := hid es;clear HS ssl b4 es OU3;go_wp2_with fail;refine HDW.out.mono ?_;rintro e w5 ⟨ns,vn',rn,rfl,on,cn,hrw,hrl,env,hln,b5⟩;have K5 := hid (zAA K4.out b5);have OU5 := hid (OU4.out.stay b5);have HNV : Hid (val ns = ((n : Int) * val us + val xs / val us ^ n) / ((n : Int) + 1)) := by
   unfold Hid;rw [HQ.out,Int.mul_comm,← ET.out,← ES.out];exact (ziG env hrw.1 hrl).symm
  have HC := hid (ztD on.sl OU5.out.sl);have ON := hid (on.lower (B' := B0) (by have := K4.out.size;omega));obtain ⟨na,nc,rfl⟩ := on.form;clear HDW on b5 env OU4 hrw hrl
  by_cases hcmp : val us ≤ val ns
  ·have hc := zvB hcmp
   have hur : val us = r := by
    rcases Int.lt_or_eq_of_le hge with t | t
    ·have := zhD (n := n) u0 HR.out.1 a0.out HR.out.2.2 t
     rw [← HNV.out] at this;omega
    ·exact t.symm
   have HUR := hid hur;generalize cmpI (val ns) (val us) = CC at *;have hc2 : 0 ≤ CC := by omega
   clear hur hcmp hg;go_wp2_with fail;refine HC.out.mono ?_;rintro e w6 ⟨rfl,b6⟩;have K6 := hid (zAA K5.out b6);have OU6 := hid (OU5.out.stay b6);clear HC b6;go_wp2;go_ret;exact ⟨us,_,rfl,OU6.out.2 HUR.out,CU.out,HUR.out,K6.out⟩
  ·have hc := zTD (show val ns < val us by omega)
   have hnr : r ≤ val ns := by rw [HNV.out];exact zNE (n := n) u0 HR.out.1 HR.out.2.1
   have hll := zSA cn CU.out (by omega);generalize cmpI (val ns) (val us) = CC at *;have hc2 : ¬ 0 ≤ CC := by omega
   have HG2 : Hid (((val ns).toNat : Int) = val ns ∧ (val ns).toNat < gk) := ⟨Int.toNat_of_nonneg (by omega),by omega⟩
   clear hcmp hg;go_wp2_with fail;refine HC.out.mono ?_;rintro e w6 ⟨rfl,b6⟩;have K6 := hid (zAA K5.out b6);have ON6 := hid ((ON.out.stay b6).ownIf (r := r));clear HC b6;go_wp2_with fail;go_roundg (val ns).toNat
   case rel => exact ⟨ns,HG2.out.1,ON6,cn,hnr,by omega,K6⟩
   case measure => exact HG2.out.2
theorem or_bit {z p : Nat} (hz : z % 2 ^ (p + 1) = 0) : z ||| 2 ^ p = z + 2 ^ p := by
 obtain ⟨q,hq⟩ := Nat.dvd_of_mod_eq_zero hz;subst hq;exact (Nat.two_pow_add_eq_or_of_lt (Nat.pow_lt_pow_right (by omega) (by omega)) q).symm
theorem bits_or_bit {z p : Nat} (hz : z % 2 ^ (p + 1) = 0) (hzw : z < 18446744073709551616) (hp : p < 64) : bits .or .u64 (z : Int) ((2 ^ p : Nat) : Int) = ((z + 2 ^ p : Nat) : Int) := by
 have h2 : 2 ^ p < 18446744073709551616 := Nat.lt_of_lt_of_le (Nat.pow_lt_pow_right (by omega) hp) (by decide : 2 ^ 64 ≤ 18446744073709551616);rw [zwB _ _ hzw h2,or_bit hz]
theorem bits_andNot_bit {z p : Nat} (hz : z % 2 ^ (p + 1) = 0) (hzw : z + 2 ^ p < 18446744073709551616) (hp : p < 64) : bits .andNot .u64 ((z + 2 ^ p : Nat) : Int) ((2 ^ p : Nat) : Int) = (z : Int) := by
 have h2 : 2 ^ p < 18446744073709551616 := by omega
 have h1 : (BitVec.ofInt 64 ((z + 2 ^ p : Nat) : Int)).toNat = z + 2 ^ p := by
  rw [BitVec.ofInt_natCast,BitVec.toNat_ofNat];exact Nat.mod_eq_of_lt (by omega)
 have h3 : (BitVec.ofInt 64 ((2 ^ p : Nat) : Int)).toNat = 2 ^ p := by
  rw [BitVec.ofInt_natCast,BitVec.toNat_ofNat];exact Nat.mod_eq_of_lt (by omega)
 have key : (BitVec.ofInt 64 ((z + 2 ^ p : Nat) : Int) &&& ~~~ BitVec.ofInt 64 ((2 ^ p : Nat) : Int)) = BitVec.ofNat 64 z := by
  apply BitVec.eq_of_getLsbD_eq
  intro i hi;rw [BitVec.getLsbD_and,BitVec.getLsbD_not];simp only [BitVec.getLsbD,h1,h3,BitVec.toNat_ofNat];rw [← or_bit hz,Nat.testBit_or,Nat.mod_eq_of_lt (show z < 2 ^ 64 by omega)]
  by_cases hip : i = p
  ·subst hip
   have : z.testBit i = false := by
    rw [Nat.testBit_eq_decide_div_mod_eq];obtain ⟨q,rfl⟩ := Nat.dvd_of_mod_eq_zero hz;rw [Nat.pow_succ,Nat.mul_assoc,Nat.mul_div_cancel_left _ (Nat.two_pow_pos i)]
    simp
   simp [this,Nat.testBit_two_pow_self]
  ·rw [Nat.testBit_two_pow_of_ne (by omega)]
   simp [hi]
 show IntKind.u64.wrap ((BitVec.ofInt 64 ((z + 2 ^ p : Nat) : Int) &&& ~~~ BitVec.ofInt 64 ((2 ^ p : Nat) : Int)).toNat : Int) = _
 rw [key,BitVec.toNat_ofNat,Nat.mod_eq_of_lt (show z < 2 ^ 64 by omega),IntKind.wrap_u64];omega
theorem word_low {R : List Int} (hR : WF R) {j N : Nat} (hj : j / 64 < R.length) (h : vn R = N * 2 ^ (j + 1)) : (R[j / 64]).toNat % 2 ^ (j % 64 + 1) = 0 := by
 have e : R = R.take (j / 64) ++ (R[j / 64] :: R.drop (j / 64 + 1)) := by rw [← List.drop_eq_getElem_cons hj,List.take_append_drop]
 have hl : (R.take (j / 64)).length = j / 64 := by simp;omega
 have hA := zkE (hR.take (j / 64));rw [hl] at hA;have ev : vn R = vn (R.take (j / 64)) + 2 ^ (64 * (j / 64)) * ((R[j / 64]).toNat + 2 ^ 64 * vn (R.drop (j / 64 + 1))) := by
  conv => lhs;rw [e]
  rw [zgC,hl]
  rfl
 generalize (R[j / 64]).toNat = z at *;generalize vn (R.drop (j / 64 + 1)) = C at *;generalize vn (R.take (j / 64)) = A at *;have hs : 2 ^ (j + 1) = 2 ^ (64 * (j / 64)) * 2 ^ (j % 64 + 1) := by rw [← Nat.pow_add];congr 1;omega
 have h64 : 2 ^ 64 = 2 ^ (j % 64 + 1) * 2 ^ (63 - j % 64) := by rw [← Nat.pow_add];congr 1;omega
 rw [h,hs,Nat.mul_left_comm] at ev;have hP := Nat.two_pow_pos (64 * (j / 64));generalize 2 ^ (64 * (j / 64)) = P at *;generalize 2 ^ (j % 64 + 1) = Q at *;have h0 : (P * (N * Q)) / P = (A + P * (z + 2 ^ 64 * C)) / P := by rw [ev]
 rw [Nat.mul_div_cancel_left _ hP,Nat.add_mul_div_left _ _ hP,Nat.div_eq_of_lt hA,Nat.zero_add,h64,Nat.mul_assoc] at h0;have h1 : z = N * Q - Q * (2 ^ (63 - j % 64) * C) := by omega
 have h2 : (N * Q) % Q = 0 := Nat.mul_mod_left _ _;rw [h0,Nat.add_mul_mod_self_left] at h2;exact h2
theorem zDG : ∀ (xs : List Int) (i : Nat) (z : Int) (h : i < xs.length),val (xs.set i z) = val xs + (z - xs[i]) * pw i
 | [],i,z,h => absurd h (by simp)
 | x :: xs,0,z,h => by simp [val,pw];omega
 | x :: xs,i + 1,z,h => by
  have ih := zDG xs i z (by simpa using h);simp only [List.set_cons_succ,val,List.getElem_cons_succ,ih];rw [show pw (i + 1) = wB * pw i from rfl,Int.mul_add,← Int.add_assoc]
  congr 1
  rw [Int.mul_left_comm]
def zID (r : Nat) (L : Nat) (j : Nat) (R : List Int) : Prop := R.length = L ∧ WF R ∧ vn R = r / 2 ^ j * 2 ^ j
theorem zuF (r j : Nat) : r / 2 ^ j = 2 * (r / 2 ^ (j + 1)) + r / 2 ^ j % 2 := by
 rw [Nat.pow_succ,← Nat.div_div_eq_div_mul];omega
theorem zID.put {r L j : Nat} {R : List Int} (h : zID r L (j + 1) R) (hj : j / 64 < R.length) :
  ∃ z : Nat,R[j / 64] = (z : Int) ∧ z % 2 ^ (j % 64 + 1) = 0 ∧ z + 2 ^ (j % 64) < 18446744073709551616 ∧ WF (R.set (j / 64) ((z + 2 ^ (j % 64) : Nat) : Int)) ∧ vn (R.set (j / 64) ((z + 2 ^ (j % 64) : Nat) : Int)) = (2 * (r / 2 ^ (j + 1)) + 1) * 2 ^ j := by
 obtain ⟨h1,h2,h3⟩ := h;have hw : IsW R[j / 64] := h2 _ (List.getElem_mem hj);unfold IsW wB at hw;have hz := word_low h2 hj h3;have hp : 2 ^ (j % 64 + 1) * 2 ^ (63 - j % 64) = 18446744073709551616 := by rw [← Nat.pow_add,show j % 64 + 1 + (63 - j % 64) = 64 by omega]
 have hP := Nat.two_pow_pos (j % 64);have hlt : R[j / 64].toNat + 2 ^ (j % 64) < 18446744073709551616 := by
  obtain ⟨q,hq⟩ := Nat.dvd_of_mod_eq_zero hz;have hlt0 : R[j / 64].toNat < 18446744073709551616 := by omega
  rw [hq] at hlt0 ⊢;rw [← hp] at hlt0 ⊢;have hq2 : q < 2 ^ (63 - j % 64) := Nat.lt_of_mul_lt_mul_left hlt0;have := Nat.mul_le_mul_left (2 ^ (j % 64 + 1)) hq2;rw [Nat.mul_succ] at this;rw [Nat.pow_succ] at this ⊢;omega
 have hwf : WF (R.set (j / 64) ((R[j / 64].toNat + 2 ^ (j % 64) : Nat) : Int)) := h2.set _ (by unfold IsW wB;omega);refine ⟨R[j / 64].toNat,by omega,hz,hlt,hwf,?_⟩;have hv := zDG R (j / 64) ((R[j / 64].toNat + 2 ^ (j % 64) : Nat) : Int) hj;rw [zNA hwf,zNA h2,show ((R[j / 64].toNat + 2 ^ (j % 64) : Nat) : Int) - R[j / 64] = ((2 ^ (j % 64) : Nat) : Int) by omega] at hv;have hpw : pw (j / 64) = ((2 ^ (64 * (j / 64)) : Nat) : Int) := by rw [zVC];push_cast;rfl
 rw [hpw,← Int.natCast_mul,← Int.natCast_add] at hv;have hv2 := Int.ofNat.inj hv;rw [hv2,h3,← Nat.pow_add,show j % 64 + 64 * (j / 64) = j by omega,Nat.pow_succ,Nat.add_mul,Nat.one_mul]
 congr 1
 rw [Nat.mul_comm (2 ^ j) 2,← Nat.mul_assoc,Nat.mul_comm (_ / _) 2]
theorem bit_in {r j : Nat} (h : (2 * (r / 2 ^ (j + 1)) + 1) * 2 ^ j ≤ r) : (2 * (r / 2 ^ (j + 1)) + 1) = r / 2 ^ j := by
 have h1 := (Nat.le_div_iff_mul_le (Nat.two_pow_pos j)).2 h;have := zuF r j;omega
theorem bit_out {r j : Nat} (h : r < (2 * (r / 2 ^ (j + 1)) + 1) * 2 ^ j) : r / 2 ^ (j + 1) * 2 ^ (j + 1) = r / 2 ^ j * 2 ^ j := by
 have h1 := (Nat.div_lt_iff_lt_mul (Nat.two_pow_pos j)).2 h;have h2 := zuF r j;have h3 : r / 2 ^ j = 2 * (r / 2 ^ (j + 1)) := by omega
 rw [h3,Nat.pow_succ,Nat.mul_comm (2 ^ j) 2,← Nat.mul_assoc,Nat.mul_comm (_ / _) 2]
theorem zID.zero {r L P : Nat} (h : r < 2 ^ P) : zID r L P (List.replicate L 0) := by
 refine ⟨by simp,fun x hx => by rw [List.eq_of_mem_replicate hx];unfold IsW wB;omega,?_⟩;rw [Nat.div_eq_of_lt h,Nat.zero_mul]
 induction L with
 | zero => rfl
 | succ n ih => rw [List.replicate_succ];show (0 : Int).toNat + _ * _ = 0;rw [ih];rfl
theorem pow_above {x r a : Int} {k : Nat} (hr : zNF r a k) (h : r < x) : a < x ^ k :=
 Int.lt_of_lt_of_le hr.2.2 (zFC (by have := hr.1;omega) (by omega) k)
theorem pow_not_above {x r a : Int} {k : Nat} (hr : zNF r a k) (h0 : 0 ≤ x) (h : x ≤ r) : x ^ k ≤ a :=
 Int.le_trans (zFC h0 h k) hr.2.1
end Go.Proofs.Ytppddlbkdoebmaa
