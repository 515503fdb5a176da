/-
 QSplitToJoin: Split, Shift, Join, joined.
-/
import Derived.Test.YtppddlbkdoebmaaQLen2ToRowsI
import Derived.Test.YtppddlbkdoebmaaQTrim3ToBits
import Derived.Test.YtppddlbkdoebmaaQHWordsToMade
import Derived.Shelf.Spec.TrailingZeros

set_option maxRecDepth 100000
set_option maxHeartbeats 6400000
set_option linter.unusedVariables false
set_option linter.unusedSimpArgs false
namespace Go.Proofs.Ytppddlbkdoebmaa
open Go.RowKit
theorem zSD : ∀ k,dpw (4 * k) = pw k
 | 0 => rfl
 | k + 1 => by
  rw [show 4 * (k + 1) = 4 * k + 1 + 1 + 1 + 1 by omega,dpw,dpw,dpw,dpw,zSD k,pw];unfold dwB wB;omega
theorem split_step {zs : List Int} {n : Nat} {y T : Int} (hn : zs.length = n) (hd : DF zs) (hv : dval zs + dpw n * y = T) : DF (zs ++ [y % 65536]) ∧ dval (zs ++ [y % 65536]) + dpw (n + 1) * (y / 65536) = T := by
 refine ⟨hd.append (DF.cons (by unfold IsD dwB;omega) DF.nil),?_⟩;rw [ztB,hn,dpw,← hv];have h := Int.mul_ediv_add_emod y 65536;have e : dpw n * y = dpw n * (y % 65536) + dwB * dpw n * (y / 65536) := by
  conv => lhs;rw [← h]
  rw [Int.mul_add,Int.mul_comm dwB,Int.mul_assoc,Int.add_comm];rfl
 simp [dval];omega
theorem split_bound {y : Int} {j : Nat} (h : y * 65536 ^ j ≤ 18446744073709551615) : y / 65536 * 65536 ^ (j + 1) ≤ 18446744073709551615 := by
 have h1 : y / 65536 * 65536 ≤ y := Int.ediv_mul_le y (by omega);have h2 : (0 : Int) ≤ 65536 ^ j := Int.pow_nonneg (by omega);have h3 := Int.mul_le_mul_of_nonneg_right h1 h2;rw [Int.pow_succ,Int.mul_comm (65536 ^ j),← Int.mul_assoc];omega
theorem split_any {w : World} {v : Value} {xs : List Int} (h : Sl w.heap.size w v xs) (hlen : xs.length ≤ 8796093022208) :
  Calls Try.prog 34 #[v] w fun e w' => ∃ ds r,e = .returned r ∧ SlI w'.heap.size w' r ds ∧ zBG ds ∧ dval ds = val xs ∧ ds.length ≤ 4 * xs.length ∧ Below w.heap.size w w' := by
 obtain ⟨hw,a,cap,rfl,hlc,hcm,hm⟩ := h;have HW := hid hw;have HM := hid hm;clear hm hw;go_enter Try.func34,Try.ntmps34;go_wp2_with (at_make;refine wpList_make_ints _ rfl _ _ rfl _ _ 0 (4 * xs.length) rfl rfl rfl (by omega) (by omega) (by omega) ?_)
 intro w2 hrow hb2 hsz2;have hhs : w.heap.size < w2.heap.size := by have := hsz2.out;omega
 clear hsz2;go_wp2_with fail
 go_loopw [3,4] (fun d i wr => ∃ (k : Nat) (zs : List Int) (r : List Value),k ≤ xs.length ∧ i = .int .i64 k ∧ d = .slice (some ⟨w.heap.size,0,none⟩) (4 * k) (4 * xs.length) ∧ Hid (zs.length = 4 * k) ∧ Hid (r.length + 4 * k = 4 * xs.length) ∧ Hid (DF zs) ∧ Hid (dval zs = val (xs.take k)) ∧
   RowI wr w.heap.size (wi zs ++ r) ∧ Below w.heap.size w wr ∧ w.heap.size < wr.heap.size) (fun _ i _ => xs.length - (intOf i).toNat)
 case atStart => exact ⟨0,[],wi (List.replicate (4 * xs.length) 0),Nat.zero_le _,rfl,rfl,rfl,(by unfold Hid;simp [zAF]),DF.nil,rfl,(by simpa [wi] using hrow),hb2,hhs⟩
 case round =>
  clear hrow hb2 hhs;obtain ⟨k,zs,r,hk,rfl,rfl,HL,HR,HD,HV,hr,hb,hhs⟩ := hrel
  by_cases hlt : k < xs.length
  ·rcases HM.out with e | ⟨b,off,rfl,hbg,hc⟩
   ·subst e;simp at hlt
   have c1 : wr.cell? ⟨b,off + k,none⟩ = some (.int .u64 xs[k]) := (hb.cell (p := ⟨b,off + k,none⟩) hbg).trans (hc k hlt);have hx := HW.out.get hlt;have HTK := hid (zOA xs k hlt);clear hc;generalize xs[k] = x at *;unfold IsW wB at hx;obtain ⟨hx0,hx1⟩ := hx;have HV1 : Hid (dval zs + dpw (4 * k + 0) * x = val (xs.take k) + x * pw k) := by
    unfold Hid;rw [HV.out,Nat.add_zero,zSD,Int.mul_comm]
   have HB1 : Hid (x * 65536 ^ 0 ≤ 18446744073709551615) := by unfold Hid;simp;omega
   go_wp2_with fail
   go_loopw [3,5,6] (fun d y i wr => ∃ (j : Nat) (zs : List Int) (r : List Value) (yy : Int),j ≤ 4 ∧ i = .int .i64 j ∧ y = .int .u64 yy ∧ 0 ≤ yy ∧ yy ≤ 18446744073709551615 ∧ d = .slice (some ⟨w.heap.size,0,none⟩) (4 * k + j) (4 * xs.length) ∧ Hid (zs.length = 4 * k + j) ∧ Hid (r.length + 4 * k + j = 4 * xs.length) ∧ Hid (DF zs) ∧
     Hid (yy * 65536 ^ j ≤ 18446744073709551615) ∧ Hid (dval zs + dpw (4 * k + j) * yy = val (xs.take k) + x * pw k) ∧ RowI wr w.heap.size (wi zs ++ r) ∧ Below w.heap.size w wr ∧ w.heap.size < wr.heap.size) (fun _ _ i _ => 4 - (intOf i).toNat)
   case atStart => exact ⟨0,zs,r,x,by omega,rfl,rfl,hx0,by omega,rfl,HL,HR,HD,HB1,HV1,hr,hb,hhs⟩
   case round =>
    clear HL HR HD HB1 HV1 hr hb hhs HV;obtain ⟨j,zs,r,yy,hj,rfl,rfl,hy0,hy1,rfl,HL,HR,HD,HB,HV,hr,hb,hhs⟩ := hrel
    by_cases hj4 : j < 4
    ·have hrp : 0 < r.length := by have := HR.out;omega
     have hst := hid (split_step HL.out HD.out HV.out);have hbd := hid (split_bound HB.out);go_wp2_with (at_builtin;refine wpList_append_intN _ rfl (.tmp 25) (.tmp 29) rfl w.heap.size (4 * k + j) (4 * xs.length) zs r (yy % 65536) (hr.alloc _) HL.out hrp (by have := HR.out;omega) rfl ⟨wr.heap.size,0,none⟩ rfl (by simp) ?_)
     intro w5 hr5 hb5;have hb15 := hid ((hb.alloc (Nat.le_of_lt hhs) _).trans hb5);have hhs5 : w.heap.size < w5.heap.size := by have := hb5.size;simp at this;omega
     have HL5 : Hid ((zs ++ [yy % 65536]).length = 4 * k + (j + 1)) := by unfold Hid;simp;have := HL.out;omega
     have HR5 : Hid (r.tail.length + 4 * k + (j + 1) = 4 * xs.length) := by unfold Hid;simp;have := HR.out;omega
     clear hb5 hr hb HL HR HD HB HV;go_wp2;go_roundw
     case rel => exact ⟨j + 1,_,r.tail,yy / 65536,by omega,by go_num,rfl,by omega,by omega,rfl,HL5,HR5,hst.out.1,hbd,hst.out.2,hr5,hb15.out,hhs5⟩
     case measure => simp [intOf];omega
    ·obtain rfl : j = 4 := by omega
     have hy : yy = 0 := by
      have := HB.out;rw [show (65536 : Int) ^ 4 = 18446744073709551616 from by decide] at this;omega
     have HV5 : Hid (dval zs = val (xs.take (k + 1))) := by
      unfold Hid;have := HV.out;rw [hy] at this;rw [HTK.out];simpa using this
     clear hy HB HV;go_wp2;go_roundw
     case rel => exact ⟨k + 1,zs,r,by omega,by go_num,rfl,HL,(by unfold Hid;have := HR.out;omega),HD,HV5,hr,hb,hhs⟩
     case measure => simp [intOf];omega
  ·obtain rfl : k = xs.length := by omega
   have hsz := RowI.sl hr (fun p hp => by have := HD.out p hp;unfold IsD dwB at this;omega) (cap := 4 * xs.length) (by rw [HL.out];exact Nat.le_refl _) (by omega) hhs;rw [HL.out] at hsz;have HT := hid (zaF hsz);clear hsz hr;go_wp2_with fail;refine HT.out.mono ?_;rintro e w4 ⟨rv,rfl,hs4,rfl⟩;go_wp2;go_ret;refine ⟨dlst zs,rv,rfl,hs4,dcanon_lst HD.out,?_,?_,hb⟩
   ·rw [zeE,HV.out,List.take_length]
   ·rw [zDB];have := znD zs;have := HL.out;omega
theorem zVC : ∀ k,pw k = 2 ^ (64 * k)
 | 0 => by simp [pw]
 | k + 1 => by rw [pw,zVC k,show 64 * (k + 1) = 64 + 64 * k by omega,Int.pow_add];rfl
theorem zDD (a b : Nat) : pw (a + b) = pw a * pw b := by rw [zVC,zVC,zVC,Nat.mul_add,Int.pow_add]
theorem two_split (n : Nat) : (2 : Int) ^ n = pw (n / 64) * 2 ^ (n % 64) := by rw [zVC,← Int.pow_add,show 64 * (n / 64) + n % 64 = n by omega]
theorem zwB (a b : Nat) (ha : a < 18446744073709551616) (hb : b < 18446744073709551616) : bits .or .u64 (a : Int) (b : Int) = ((a ||| b : Nat) : Int) := by
 have hx : a ||| b < 2 ^ 64 := Nat.or_lt_two_pow ha hb;have h1 : (BitVec.ofInt 64 (a : Int)).toNat = a := by
  rw [BitVec.ofInt_natCast,BitVec.toNat_ofNat];exact Nat.mod_eq_of_lt (by omega)
 have h2 : (BitVec.ofInt 64 (b : Int)).toNat = b := by
  rw [BitVec.ofInt_natCast,BitVec.toNat_ofNat];exact Nat.mod_eq_of_lt (by omega)
 show IntKind.u64.wrap ((BitVec.ofInt 64 (a : Int) ||| BitVec.ofInt 64 (b : Int)).toNat : Int) = _
 rw [BitVec.toNat_or,h1,h2,IntKind.wrap_u64];omega
theorem zdD {p : Nat} (hp : p ≤ 64) : 2 ^ p * 2 ^ (64 - p) = 18446744073709551616 := by rw [← Nat.pow_add,show p + (64 - p) = 64 by omega]
theorem zWA (p : Nat) : (2 : Int) ^ p = ((2 ^ p : Nat) : Int) := by simp
theorem shl_word {x c : Int} {p : Nat} (hx : IsW x) (hp : p < 64) (hc0 : 0 ≤ c) (hc : c < 2 ^ p) :
  IsW (bits BinOp.or IntKind.u64 (IntKind.u64.wrap (x * 2 ^ p)) c) ∧ 0 ≤ x / 2 ^ (64 - p) ∧ x / 2 ^ (64 - p) < 2 ^ p ∧
   bits BinOp.or IntKind.u64 (IntKind.u64.wrap (x * 2 ^ p)) c + wB * (x / 2 ^ (64 - p)) = 0 + x * 2 ^ p + c := by
 have hl := zeB hx;obtain ⟨X,rfl⟩ := Int.eq_ofNat_of_zero_le hx.1;obtain ⟨C,rfl⟩ := Int.eq_ofNat_of_zero_le hc0;simp only [Int.toNat_natCast] at hl;have hs := zdD (p := p) (by omega);have hpp := Nat.two_pow_pos p;have hqp := Nat.two_pow_pos (64 - p);rw [zWA p,zWA (64 - p)] at *;generalize hP : 2 ^ p = P at *;generalize hQ : 2 ^ (64 - p) = Q at *;have hC : C < P := by omega
 have hm : X * P % 18446744073709551616 = P * (X % Q) := by rw [← hs,Nat.mul_comm X P,Nat.mul_mod_mul_left]
 have hXQ : X % Q < Q := Nat.mod_lt _ hqp;have hle : P * (X % Q) + P ≤ 18446744073709551616 := by
  rw [← hs,← Nat.mul_succ];exact Nat.mul_le_mul_left _ hXQ
 have hw : IntKind.u64.wrap ((X : Int) * (P : Int)) = ((P * (X % Q) : Nat) : Int) := by
  rw [IntKind.wrap_u64,← hm];simp
 have ho : P * (X % Q) ||| C = P * (X % Q) + C := by
  subst hP;exact (Nat.two_pow_add_eq_or_of_lt (by omega) _).symm
 have hd : (X : Int) / (Q : Int) = ((X / Q : Nat) : Int) := by simp
 rw [hw,zwB _ _ (by omega) (by omega),ho,hd];have hXd : X / Q < P := by rw [Nat.div_lt_iff_lt_mul hqp,hs];exact hl
 have hmain : P * (X % Q) + 18446744073709551616 * (X / Q) = X * P := by
  have := Nat.mod_add_div X Q;rw [← hs,Nat.mul_assoc,← Nat.mul_add,this,Nat.mul_comm]
 refine ⟨by unfold IsW wB;omega,by omega,by omega,?_⟩;have : ((P * (X % Q) + 18446744073709551616 * (X / Q) : Nat) : Int) = ((X * P : Nat) : Int) := by rw [hmain]
 unfold wB;rw [← Int.natCast_mul];omega
theorem shr_word {x y : Int} {p : Nat} (hx : IsW x) (hy : IsW y) (hp : p < 64) :
  IsW (bits BinOp.or IntKind.u64 (x / 2 ^ p) (IntKind.u64.wrap (y * 2 ^ (64 - p)))) ∧
   2 ^ p * bits BinOp.or IntKind.u64 (x / 2 ^ p) (IntKind.u64.wrap (y * 2 ^ (64 - p))) = x - x % 2 ^ p + wB * (y % 2 ^ p) := by
 have hl := zeB hx;have hl' := zeB hy;obtain ⟨X,rfl⟩ := Int.eq_ofNat_of_zero_le hx.1;obtain ⟨Y,rfl⟩ := Int.eq_ofNat_of_zero_le hy.1;simp only [Int.toNat_natCast] at hl hl';have hs := zdD (p := p) (by omega);have hpp := Nat.two_pow_pos p;have hqp := Nat.two_pow_pos (64 - p);rw [zWA p,zWA (64 - p)] at *;generalize hP : 2 ^ p = P at *;generalize hQ : 2 ^ (64 - p) = Q at *;have hm : Y * Q % 18446744073709551616 = Q * (Y % P) := by rw [← hs,Nat.mul_comm P Q,Nat.mul_comm Y Q,Nat.mul_mod_mul_left]
 have hYP : Y % P < P := Nat.mod_lt _ hpp;have hle : Q * (Y % P) + Q ≤ 18446744073709551616 := by
  rw [← hs,Nat.mul_comm P Q,← Nat.mul_succ];exact Nat.mul_le_mul_left _ hYP
 have hw : IntKind.u64.wrap ((Y : Int) * (Q : Int)) = ((Q * (Y % P) : Nat) : Int) := by
  rw [IntKind.wrap_u64,← hm];simp
 have hXd : X / P < Q := by rw [Nat.div_lt_iff_lt_mul hpp,Nat.mul_comm,hs];exact hl
 have ho : X / P ||| Q * (Y % P) = Q * (Y % P) + X / P := by
  rw [Nat.or_comm];subst hQ;exact (Nat.two_pow_add_eq_or_of_lt hXd _).symm
 have hd : (X : Int) / (P : Int) = ((X / P : Nat) : Int) := by simp
 rw [hw,hd,zwB _ _ (by omega) (by omega),ho];refine ⟨by unfold IsW wB;omega,?_⟩;have h1 := Nat.div_add_mod X P;have h2 : P * (Q * (Y % P) + X / P) = 18446744073709551616 * (Y % P) + P * (X / P) := by rw [Nat.mul_add,← Nat.mul_assoc,hs]
 have h3 : (X : Int) % (P : Int) = ((X % P : Nat) : Int) := by simp
 have h4 : (Y : Int) % (P : Int) = ((Y % P : Nat) : Int) := by simp
 rw [h3,h4,← Int.natCast_mul,h2];unfold wB;omega
def Own (B : Nat) (w : World) (v : Value) (zs : List Int) : Prop :=
 WF zs ∧ ((v = .slice none 0 0 ∧ zs = []) ∨ ∃ g r,B ≤ g ∧ zs.length + r.length ≤ 35184372088832 ∧ v = .slice (some ⟨g,0,none⟩) zs.length (zs.length + r.length) ∧ Row w g (ws zs ++ r))
theorem Own.form {B : Nat} {w : World} {v : Value} {zs : List Int} (h : Own B w v zs) : ∃ a cap,v = .slice a zs.length cap := by
 obtain ⟨_,⟨h1,h2⟩ | ⟨g,r,_,_,h1,_⟩⟩ := h
 ·subst h2;exact ⟨none,0,h1⟩
 ·exact ⟨_,_,h1⟩
theorem Own.sl {B : Nat} {w : World} {v : Value} {zs : List Int} (h : Own B w v zs) : Sl w.heap.size w v zs := by
 obtain ⟨hw,⟨h1,h2⟩ | ⟨g,r,h1,h2,h3,h4⟩⟩ := h
 ·subst h1 h2;exact Sl.nilAt w
 ·subst h3
  exact h4.sl hw (by omega) h2 h4.lt
theorem zkG {l : List Int} (h : DF l) (hl : l.length ≤ 3) : 0 ≤ dval l ∧ dval l ≤ 281474976710655 := by
 refine ⟨zcC h,?_⟩
 match l,h,hl with
 | [],_,_ => simp [dval]
 | [a],h,_ => have h1 := h a (by simp);unfold IsD dwB at h1;simp [dval];omega
 | [a,b],h,_ => have h1 := h a (by simp);have h2 := h b (by simp);unfold IsD dwB at h1 h2;simp [dval,dwB];omega
 | [a,b,c],h,_ => have h1 := h a (by simp);have h2 := h b (by simp);have h3 := h c (by simp);unfold IsD dwB at h1 h2 h3;simp [dval,dwB];omega
theorem DF.drop {xs : List Int} (h : DF xs) (n : Nat) : DF (xs.drop n) := fun x hx => h x (List.mem_of_mem_drop hx)
theorem zQE {D : List Int} (hD : DF D) {p n : Nat} : dval ((D.drop p).take (n + 1)) = D.getD p 0 + 65536 * dval ((D.drop (p + 1)).take n) ∧ 0 ≤ D.getD p 0 ∧ D.getD p 0 ≤ 65535 := by
 by_cases h : p < D.length
 ·have hx := hD.get h
  unfold IsD dwB at hx;rw [List.drop_eq_getElem_cons h,List.take_succ_cons,dval];have e : D.getD p 0 = D[p] := by simp [h]
  rw [e];exact ⟨rfl,by omega,by omega⟩
 ·have e : D.getD p 0 = 0 := by simp [show D.length ≤ p by omega]
  rw [e,List.drop_of_length_le (by omega),List.drop_of_length_le (by omega)];simp [dval]
theorem join_step {D zs : List Int} {t : Nat} (hD : DF D) (hz : WF zs) (hl : zs.length = t) (ht : 4 * t < D.length) (hv : val zs = dval (D.take (4 * t))) {y : Int} (hy : y = dval ((D.drop (4 * t)).take 4)) :
  WF (zs ++ [y]) ∧ val (zs ++ [y]) = dval (D.take (4 * (t + 1))) := by
 obtain ⟨hc0,hc1,hc2⟩ := zQE hD (p := 4 * t) (n := 3);have hc : dval ((D.drop (4 * t)).take 4) = D.getD (4 * t) 0 + 65536 * dval ((D.drop (4 * t + 1)).take 3) := hc0;have h3 := zkG ((hD.drop (4 * t + 1)).take 3) (by simp;omega);have hyw : IsW y := by unfold IsW wB;rw [hy];omega
 refine ⟨hz.append (WF.cons hyw WF.nil),?_⟩;rw [zfA,hl,hv,show 4 * (t + 1) = 4 * t + 4 by omega,List.take_add,ztB,List.length_take,Nat.min_eq_left (by omega),zSD,← hy];simp [val]
theorem pw_mono {a b : Nat} (h : a ≤ b) : pw a ≤ pw b := by
 obtain ⟨c,rfl⟩ : ∃ c,b = a + c := ⟨b - a,by omega⟩
 rw [zDD];have h1 := zhA a;have h2 := zhA c;have := Int.mul_le_mul_of_nonneg_left (show (1 : Int) ≤ pw c by omega) (Int.le_of_lt h1);omega
theorem canon_of_pw {zs : List Int} (hz : WF zs) {t : Nat} (hl : zs.length = t + 1) (h : pw t ≤ val zs) : zFA zs := by
 refine ⟨hz,?_⟩;have hle := zIA zs
 by_cases e : wid zs = zs.length
 ·exact e
 ·exfalso
  have h1 := zXA (canon_lst hz).1;rw [val_lst,length_lst] at h1;have h2 := pw_mono (show wid zs ≤ t by omega);omega
theorem dcanon_ge {D : List Int} (h : zBG D) {n : Nat} (hn : D.length = n + 1) : dpw n ≤ dval D := by
 obtain ⟨h1,h2⟩ := zvF (show dwid D = n + 1 by rw [h.2];exact hn);have e : D = D.take n ++ [D[n]] := by rw [← List.take_succ_eq_append_getElem h1,← hn,List.take_length]
 have hx := h.1.get h1;have hp := zWF n;have h0 := zcC (h.1.take n);have hv : dval D = dval (D.take n) + dpw n * D[n] := by
  have q := ztB (D.take n) [D[n]];rw [← e,List.length_take,Nat.min_eq_left (by omega)] at q;rw [q];simp [dval]
 have := Int.mul_le_mul_of_nonneg_left (show (1 : Int) ≤ D[n] by have := hx.1;omega) (Int.le_of_lt hp);rw [hv];omega
theorem dpw_mono {a b : Nat} (h : a ≤ b) : dpw a ≤ dpw b := by
 induction h with
 | refl => exact Int.le_refl _
 | step _ ih => rw [dpw];have := zWF a;unfold dwB;omega
theorem join_canon {D zs : List Int} {t : Nat} (hD : zBG D) (hz : WF zs) (hl : zs.length = t) (h1 : D.length ≤ 4 * t) (h2 : t = 0 ∨ 4 * (t - 1) < D.length) (hv : val zs = dval D) : zFA zs := by
 cases t with
 | zero => have : zs = [] := List.eq_nil_of_length_eq_zero hl;subst this;exact ⟨WF.nil,rfl⟩
 | succ t =>
  obtain ⟨n,hn⟩ : ∃ n,D.length = n + 1 := ⟨D.length - 1,by omega⟩
  refine canon_of_pw hz hl ?_;rw [hv,← zSD];exact Int.le_trans (dpw_mono (by omega)) (dcanon_ge hD hn)
theorem join_any {w : World} {v : Value} {ds : List Int} (h : SlI w.heap.size w v ds) (hd : DF ds) :
  Calls Try.prog 35 #[v] w fun e w' => ∃ zs r,e = .returned r ∧ Own w.heap.size w' r zs ∧ zFA zs ∧ val zs = dval ds ∧ Below w.heap.size w w' := by
 have HT := hid (zaF h);have HDC := hid (dcanon_lst hd);have HDV := hid (zeE ds);clear h hd;generalize dlst ds = D at *;go_enter Try.func35,Try.ntmps35;go_wp2_with fail;refine HT.out.mono ?_;rintro e w1 ⟨rv,rfl,hs,rfl⟩;clear HT;obtain ⟨hw,a,cap,rfl,hlc,hcm,hm⟩ := hs;have HM := hid hm;clear hm hw;go_wp2_with (at_make;refine wpList_make_words _ rfl _ _ rfl _ _ 0 (D.length / 4 + 1) rfl rfl rfl (by omega) (by omega) (by omega) ?_)
 intro w2 hrow hb2 hsz2;have hhs : w1.heap.size < w2.heap.size := by have := hsz2.out;omega
 clear hsz2;go_wp2_with fail
 go_loopw [3,4] (fun l i wr => ∃ (t : Nat) (zs : List Int) (r : List Value),Hid (t = 0 ∨ 4 * (t - 1) < D.length) ∧ t ≤ D.length ∧ i = .int .i64 ((4 * t : Nat) : Int) ∧ l = .slice (some ⟨w1.heap.size,0,none⟩) t (D.length / 4 + 1) ∧ Hid (zs.length = t) ∧ Hid (r.length + t = D.length / 4 + 1) ∧ Hid (WF zs) ∧ Hid (val zs = dval (D.take (4 * t))) ∧
   Row wr w1.heap.size (ws zs ++ r) ∧ Below w1.heap.size w1 wr ∧ w1.heap.size < wr.heap.size) (fun _ i _ => D.length - (intOf i).toNat)
 case atStart => exact ⟨0,[],ws (List.replicate (D.length / 4 + 1) 0),.inl rfl,Nat.zero_le _,rfl,rfl,rfl,(by unfold Hid;simp [zGA]),WF.nil,rfl,(by simpa [ws] using hrow),hb2,hhs⟩
 case round =>
  clear hrow hb2 hhs;obtain ⟨t,zs,r,HT4,htl,rfl,rfl,HL,HR,HWZ,HV,hr,hb,hhs⟩ := hrel
  by_cases hlt : 4 * t < D.length
  ·rcases HM.out with e | ⟨b,off,rfl,hbg,hc⟩
   ·subst e;simp at hlt
   have HC : Hid (∀ p,p < D.length → wr.cell? ⟨b,off + p,none⟩ = some (.int .i64 (D.getD p 0))) := fun p hp => by
    rw [show D.getD p 0 = D[p] by simp [hp]];exact (hb.cell (p := ⟨b,off + p,none⟩) hbg).trans (hc p hp)
   clear hc;have hlti : ((4 * t : Nat) : Int) < (D.length : Int) := by omega
   go_wp2_with fail
   go_loop [5,6] (fun y i => ∃ (j : Nat) (yy : Int),j ≤ 4 ∧ i = .int .i64 ((j : Int) - 1) ∧ y = .int .u64 yy ∧ Hid (yy = dval ((D.drop (4 * t + j)).take (4 - j)))) (fun _ i => (intOf i + 1).toNat)
   case atStart => exact ⟨4,0,Nat.le_refl _,rfl,rfl,(by unfold Hid;simp [dval])⟩
   case round =>
    obtain ⟨j,yy,hj,rfl,rfl,HY⟩ := hrel
    by_cases hj0 : j = 0
    ·subst hj0
     have hrp : 0 < r.length := by have := HR.out;omega
     have hst := hid (join_step HDC.out.1 HWZ.out HL.out hlt HV.out (y := yy) (by rw [HY.out];simp));go_wp2_with (at_builtin;refine wpList_append_more _ rfl (.tmp 41) (.tmp 43) rfl w1.heap.size t (D.length / 4 + 1) zs r yy (hr.alloc _) HL.out hrp (by have := HR.out;omega) rfl ⟨wr.heap.size,0,none⟩ rfl (by simp) ?_)
     intro w5 hr5 hb5;have hb15 := hid ((hb.alloc (Nat.le_of_lt hhs) _).trans hb5);have hhs5 : w1.heap.size < w5.heap.size := by have := hb5.size;simp at this;omega
     have HL5 : Hid ((zs ++ [yy]).length = t + 1) := by unfold Hid;simp;exact HL.out
     have HR5 : Hid (r.tail.length + (t + 1) = D.length / 4 + 1) := by unfold Hid;simp;have := HR.out;omega
     clear hb5 hr hb HL HR HV HC HY;go_wp2;go_roundw
     case rel => exact ⟨t + 1,_,r.tail,.inr (by simpa using hlt),by omega,by go_num,rfl,HL5,HR5,hst.out.1,hst.out.2,hr5,hb15.out,hhs5⟩
     case measure => simp [intOf];omega
    ·obtain ⟨q,rfl⟩ : ∃ q,j = q + 1 := ⟨j - 1,by omega⟩
     have hcn := zQE HDC.out.1 (p := 4 * t + q) (n := 4 - (q + 1));have h3 := zkG ((HDC.out.1.drop (4 * t + (q + 1))).take (4 - (q + 1))) (by simp;omega);rw [← HY.out] at h3;rw [show 4 * t + q + 1 = 4 * t + (q + 1) by omega,← HY.out,show 4 - (q + 1) + 1 = 4 - q by omega] at hcn;obtain ⟨hc1,hd0,hd1⟩ := hcn;have HC1 := hid hc1;have hz : ¬ 4 * t + q < D.length → D.getD (4 * t + q) 0 = 0 := fun h => by simp [show D.length ≤ 4 * t + q by omega]
     have hcell := HC.out (4 * t + q);generalize D.getD (4 * t + q) 0 = d at *;obtain ⟨hy0,hy1⟩ := h3;clear hc1 hj0
     by_cases hin : 4 * t + q < D.length
     ·have hcl := hcell hin
      clear hcell hz;have hi1 : ((4 * t : Nat) : Int) + (q : Int) < (D.length : Int) := by omega
      go_wp2;go_round
      case rel => exact ⟨q,_,by omega,rfl,rfl,(by unfold Hid;rw [HC1.out];omega)⟩
      case measure => simp [intOf]
     ·have hz0 := hid (hz hin)
      clear hcell hz;have hi1 : ¬ ((4 * t : Nat) : Int) + (q : Int) < (D.length : Int) := by omega
      go_wp2;go_round
      case rel => exact ⟨q,_,by omega,rfl,rfl,(by unfold Hid;rw [HC1.out,hz0.out];omega)⟩
      case measure => simp [intOf]
  ·have hnlt : ¬ ((4 * t : Nat) : Int) < (D.length : Int) := by omega
   go_wp2;go_ret;have hv : val zs = dval D := by rw [HV.out,List.take_of_length_le (by omega)]
   refine ⟨zs,_,rfl,⟨HWZ.out,.inr ⟨w1.heap.size,r,Nat.le_refl _,?_,?_,hr⟩⟩,join_canon HDC.out HWZ.out HL.out (by omega) HT4.out hv,by rw [hv,HDV.out],hb⟩
   ·have h1 := HL.out;have h2 := HR.out;omega
   ·have h1 := HL.out
    have h2 := HR.out
    show Value.slice _ t (D.length / 4 + 1) = _
    rw [h1,show t + r.length = D.length / 4 + 1 by omega]
def Told (w : World) (s : Int) (e : Ending) (w' : World) : Prop := ∃ zs r,e = .returned r ∧ Own w.heap.size w' r zs ∧ zFA zs ∧ val zs = s ∧ Below w.heap.size w w'
end Go.Proofs.Ytppddlbkdoebmaa
