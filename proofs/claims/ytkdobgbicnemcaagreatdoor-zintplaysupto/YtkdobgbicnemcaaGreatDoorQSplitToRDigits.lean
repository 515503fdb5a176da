/-
 QSplitToRDigits: Split, Join, ROrder, RLeast, R5Made, RDigits, joined.
-/
import Derived.Test.YtkdobgbicnemcaaGreatDoorQZDivsToRowsI
import Derived.Test.YtkdobgbicnemcaaGreatDoorQAlikeToShift
import Derived.Test.YtkdobgbicnemcaaGreatDoorQZStoreToLst9

set_option maxRecDepth 100000
set_option maxHeartbeats 6400000
set_option linter.unusedVariables false
set_option linter.unusedSimpArgs false
namespace Go.Proofs.YtkdobgbicnemcaaGreatDoor
open Go.RowKit
theorem zqC : ∀ k,dpw (4 * k) = pw k
 | 0 => rfl
 | k + 1 => by
  rw [show 4 * (k + 1) = 4 * k + 1 + 1 + 1 + 1 by omega,dpw,dpw,dpw,dpw,zqC k,pw];unfold dwB wB;omega
theorem zhD {zs : List Int} {n : Nat} {y T : Int} (hn : zs.length = n) (hd : DF zs) (hv : dval zs + dpw n * y = T) : DF (zs ++ [y % 65536]) ∧ dval (zs ++ [y % 65536]) + dpw (n + 1) * (y / 65536) = T := by
 refine ⟨hd.append (DF.cons (by unfold IsD dwB;omega) DF.nil),?_⟩;rw [zHB,hn,dpw,← hv];have h := Int.mul_ediv_add_emod y 65536;have e : dpw n * y = dpw n * (y % 65536) + dwB * dpw n * (y / 65536) := by
  conv => lhs;rw [← h]
  rw [Int.mul_add,Int.mul_comm dwB,Int.mul_assoc,Int.add_comm];rfl
 simp [dval];omega
theorem zCD {y : Int} {j : Nat} (h : y * 65536 ^ j ≤ 18446744073709551615) : y / 65536 * 65536 ^ (j + 1) ≤ 18446744073709551615 := by
 have h1 : y / 65536 * 65536 ≤ y := Int.ediv_mul_le y (by omega);have h2 : (0 : Int) ≤ 65536 ^ j := Int.pow_nonneg (by omega);have h3 := Int.mul_le_mul_of_nonneg_right h1 h2;rw [Int.pow_succ,Int.mul_comm (65536 ^ j),← Int.mul_assoc];omega
theorem zLB {w : World} {v : Value} {xs : List Int} (h : Sl w.heap.size w v xs) (hlen : xs.length ≤ 8796093022208) :
  Calls Tryz.prog 98 #[v] w fun e w' => ∃ ds r,e = .returned r ∧ SlI w'.heap.size w' r ds ∧ zlC ds ∧ dval ds = val xs ∧ ds.length ≤ 4 * xs.length ∧ Below w.heap.size w w' := by
 obtain ⟨hw,a,cap,rfl,hlc,hcm,hm⟩ := h;have HW := hid hw;have HM := hid hm;clear hm hw;go_enter Tryz.func98,Tryz.ntmps98;go_wp2_with (at_make;refine zfA _ rfl _ _ rfl _ _ 0 (4 * xs.length) rfl rfl rfl (by omega) (by omega) (by omega) ?_)
 intro w2 hrow hb2 hsz2;have hhs : w.heap.size < w2.heap.size := by have := hsz2.out;omega
 clear hsz2;go_wp2_with fail
 go_loopw [3,4] (fun d i wr => ∃ (k : Nat) (zs : List Int) (r : List Value),k ≤ xs.length ∧ i = .int .i64 k ∧ d = .slice (some ⟨w.heap.size,0,none⟩) (4 * k) (4 * xs.length) ∧ Hid (zs.length = 4 * k) ∧ Hid (r.length + 4 * k = 4 * xs.length) ∧ Hid (DF zs) ∧ Hid (dval zs = val (xs.take k)) ∧
   RowI wr w.heap.size (wi zs ++ r) ∧ Below w.heap.size w wr ∧ w.heap.size < wr.heap.size) (fun _ i _ => xs.length - (intOf i).toNat)
 case atStart => exact ⟨0,[],wi (List.replicate (4 * xs.length) 0),Nat.zero_le _,rfl,rfl,rfl,(by unfold Hid;simp [zUD]),DF.nil,rfl,(by simpa [wi] using hrow),hb2,hhs⟩
 case round =>
  clear hrow hb2 hhs;obtain ⟨k,zs,r,hk,rfl,rfl,HL,HR,HD,HV,hr,hb,hhs⟩ := hrel
  by_cases hlt : k < xs.length
  ·rcases HM.out with e | ⟨b,off,rfl,hbg,hc⟩
   ·subst e;simp at hlt
   have c1 : wr.cell? ⟨b,off + k,none⟩ = some (.int .u64 xs[k]) := (hb.cell (p := ⟨b,off + k,none⟩) hbg).trans (hc k hlt);have hx := HW.out.get hlt;have HTK := hid (zPA xs k hlt);clear hc;generalize xs[k] = x at *;unfold IsW wB at hx;obtain ⟨hx0,hx1⟩ := hx;have HV1 : Hid (dval zs + dpw (4 * k + 0) * x = val (xs.take k) + x * pw k) := by
    unfold Hid;rw [HV.out,Nat.add_zero,zqC,Int.mul_comm]
   have HB1 : Hid (x * 65536 ^ 0 ≤ 18446744073709551615) := by unfold Hid;simp;omega
   go_wp2_with fail
   go_loopw [3,5,6] (fun d y i wr => ∃ (j : Nat) (zs : List Int) (r : List Value) (yy : Int),j ≤ 4 ∧ i = .int .i64 j ∧ y = .int .u64 yy ∧ 0 ≤ yy ∧ yy ≤ 18446744073709551615 ∧ d = .slice (some ⟨w.heap.size,0,none⟩) (4 * k + j) (4 * xs.length) ∧ Hid (zs.length = 4 * k + j) ∧ Hid (r.length + 4 * k + j = 4 * xs.length) ∧ Hid (DF zs) ∧
     Hid (yy * 65536 ^ j ≤ 18446744073709551615) ∧ Hid (dval zs + dpw (4 * k + j) * yy = val (xs.take k) + x * pw k) ∧ RowI wr w.heap.size (wi zs ++ r) ∧ Below w.heap.size w wr ∧ w.heap.size < wr.heap.size) (fun _ _ i _ => 4 - (intOf i).toNat)
   case atStart => exact ⟨0,zs,r,x,by omega,rfl,rfl,hx0,by omega,rfl,HL,HR,HD,HB1,HV1,hr,hb,hhs⟩
   case round =>
    clear HL HR HD HB1 HV1 hr hb hhs HV;obtain ⟨j,zs,r,yy,hj,rfl,rfl,hy0,hy1,rfl,HL,HR,HD,HB,HV,hr,hb,hhs⟩ := hrel
    by_cases hj4 : j < 4
    ·have hrp : 0 < r.length := by have := HR.out;omega
     have hst := hid (zhD HL.out HD.out HV.out);have hbd := hid (zCD HB.out);go_wp2_with (at_builtin;refine zsB _ rfl (.tmp 25) (.tmp 29) rfl w.heap.size (4 * k + j) (4 * xs.length) zs r (yy % 65536) (hr.alloc _) HL.out hrp (by have := HR.out;omega) rfl ⟨wr.heap.size,0,none⟩ rfl (by simp) ?_)
     intro w5 hr5 hb5;have hb15 := hid ((hb.alloc (Nat.le_of_lt hhs) _).trans hb5);have hhs5 : w.heap.size < w5.heap.size := by have := hb5.size;simp at this;omega
     have HL5 : Hid ((zs ++ [yy % 65536]).length = 4 * k + (j + 1)) := by unfold Hid;simp;have := HL.out;omega
     have HR5 : Hid (r.tail.length + 4 * k + (j + 1) = 4 * xs.length) := by unfold Hid;simp;have := HR.out;omega
     clear hb5 hr hb HL HR HD HB HV;go_wp2;go_roundw
     case rel => exact ⟨j + 1,_,r.tail,yy / 65536,by omega,by go_num,rfl,by omega,by omega,rfl,HL5,HR5,hst.out.1,hbd,hst.out.2,hr5,hb15.out,hhs5⟩
     case measure => simp [intOf];omega
    ·obtain rfl : j = 4 := by omega
     have hy : yy = 0 := by
      have := HB.out;rw [show (65536 : Int) ^ 4 = 18446744073709551616 from by decide] at this;omega
     have HV5 : Hid (dval zs = val (xs.take (k + 1))) := by
      unfold Hid;have := HV.out;rw [hy] at this;rw [HTK.out];simpa using this
     clear hy HB HV;go_wp2;go_roundw
     case rel => exact ⟨k + 1,zs,r,by omega,by go_num,rfl,HL,(by unfold Hid;have := HR.out;omega),HD,HV5,hr,hb,hhs⟩
     case measure => simp [intOf];omega
  ·obtain rfl : k = xs.length := by omega
   have hsz := RowI.sl hr (fun p hp => by have := HD.out p hp;unfold IsD dwB at this;omega) (cap := 4 * xs.length) (by rw [HL.out];exact Nat.le_refl _) (by omega) hhs;rw [HL.out] at hsz;have HT := hid (zpG hsz);clear hsz hr;go_wp2_with fail;refine HT.out.mono ?_;rintro e w4 ⟨rv,rfl,hs4,rfl⟩;go_wp2;go_ret;refine ⟨dlst zs,rv,rfl,hs4,dcanon_lst HD.out,?_,?_,hb⟩
   ·rw [zSC,HV.out,List.take_length]
   ·rw [dlength_lst];have := zPC zs;have := HL.out;omega
theorem zVH {l : List Int} (h : DF l) (hl : l.length ≤ 3) : 0 ≤ dval l ∧ dval l ≤ 281474976710655 := by
 refine ⟨zjB h,?_⟩
 match l,h,hl with
 | [],_,_ => simp [dval]
 | [a],h,_ => have h1 := h a (by simp);unfold IsD dwB at h1;simp [dval];omega
 | [a,b],h,_ => have h1 := h a (by simp);have h2 := h b (by simp);unfold IsD dwB at h1 h2;simp [dval,dwB];omega
 | [a,b,c],h,_ => have h1 := h a (by simp);have h2 := h b (by simp);have h3 := h c (by simp);unfold IsD dwB at h1 h2 h3;simp [dval,dwB];omega
theorem DF.drop {xs : List Int} (h : DF xs) (n : Nat) : DF (xs.drop n) := fun x hx => h x (List.mem_of_mem_drop hx)
theorem zsC {D : List Int} (hD : DF D) {p n : Nat} : dval ((D.drop p).take (n + 1)) = D.getD p 0 + 65536 * dval ((D.drop (p + 1)).take n) ∧ 0 ≤ D.getD p 0 ∧ D.getD p 0 ≤ 65535 := by
 by_cases h : p < D.length
 ·have hx := hD.get h
  unfold IsD dwB at hx;rw [List.drop_eq_getElem_cons h,List.take_succ_cons,dval];have e : D.getD p 0 = D[p] := by simp [h]
  rw [e];exact ⟨rfl,by omega,by omega⟩
 ·have e : D.getD p 0 = 0 := by simp [show D.length ≤ p by omega]
  rw [e,List.drop_of_length_le (by omega),List.drop_of_length_le (by omega)];simp [dval]
theorem zmE {D zs : List Int} {t : Nat} (hD : DF D) (hz : WF zs) (hl : zs.length = t) (ht : 4 * t < D.length) (hv : val zs = dval (D.take (4 * t))) {y : Int} (hy : y = dval ((D.drop (4 * t)).take 4)) :
  WF (zs ++ [y]) ∧ val (zs ++ [y]) = dval (D.take (4 * (t + 1))) := by
 obtain ⟨hc0,hc1,hc2⟩ := zsC hD (p := 4 * t) (n := 3);have hc : dval ((D.drop (4 * t)).take 4) = D.getD (4 * t) 0 + 65536 * dval ((D.drop (4 * t + 1)).take 3) := hc0;have h3 := zVH ((hD.drop (4 * t + 1)).take 3) (by simp;omega);have hyw : IsW y := by unfold IsW wB;rw [hy];omega
 refine ⟨hz.append (WF.cons hyw WF.nil),?_⟩;rw [zuA,hl,hv,show 4 * (t + 1) = 4 * t + 4 by omega,List.take_add,zHB,List.length_take,Nat.min_eq_left (by omega),zqC,← hy];simp [val]
theorem pw_mono {a b : Nat} (h : a ≤ b) : pw a ≤ pw b := by
 obtain ⟨c,rfl⟩ : ∃ c,b = a + c := ⟨b - a,by omega⟩
 rw [zFG];have h1 := zVB a;have h2 := zVB c;have := Int.mul_le_mul_of_nonneg_left (show (1 : Int) ≤ pw c by omega) (Int.le_of_lt h1);omega
theorem canon_of_pw {zs : List Int} (hz : WF zs) {t : Nat} (hl : zs.length = t + 1) (h : pw t ≤ val zs) : zHA zs := by
 refine ⟨hz,?_⟩;have hle := zRA zs
 by_cases e : wid zs = zs.length
 ·exact e
 ·exfalso
  have h1 := zUA (canon_lst hz).1;rw [val_lst,length_lst] at h1;have h2 := pw_mono (show wid zs ≤ t by omega);omega
theorem dcanon_ge {D : List Int} (h : zlC D) {n : Nat} (hn : D.length = n + 1) : dpw n ≤ dval D := by
 obtain ⟨h1,h2⟩ := zQH (show dwid D = n + 1 by rw [h.2];exact hn);have e : D = D.take n ++ [D[n]] := by rw [← List.take_succ_eq_append_getElem h1,← hn,List.take_length]
 have hx := h.1.get h1;have hp := zfG n;have h0 := zjB (h.1.take n);have hv : dval D = dval (D.take n) + dpw n * D[n] := by
  have q := zHB (D.take n) [D[n]];rw [← e,List.length_take,Nat.min_eq_left (by omega)] at q;rw [q];simp [dval]
 have := Int.mul_le_mul_of_nonneg_left (show (1 : Int) ≤ D[n] by have := hx.1;omega) (Int.le_of_lt hp);rw [hv];omega
theorem dpw_mono {a b : Nat} (h : a ≤ b) : dpw a ≤ dpw b := by
 induction h with
 | refl => exact Int.le_refl _
 | step _ ih => rw [dpw];have := zfG a;unfold dwB;omega
theorem zUF {D zs : List Int} {t : Nat} (hD : zlC D) (hz : WF zs) (hl : zs.length = t) (h1 : D.length ≤ 4 * t) (h2 : t = 0 ∨ 4 * (t - 1) < D.length) (hv : val zs = dval D) : zHA zs := by
 cases t with
 | zero => have : zs = [] := List.eq_nil_of_length_eq_zero hl;subst this;exact ⟨WF.nil,rfl⟩
 | succ t =>
  obtain ⟨n,hn⟩ : ∃ n,D.length = n + 1 := ⟨D.length - 1,by omega⟩
  refine canon_of_pw hz hl ?_;rw [hv,← zqC];exact Int.le_trans (dpw_mono (by omega)) (dcanon_ge hD hn)
theorem zsF {w : World} {v : Value} {ds : List Int} (h : SlI w.heap.size w v ds) (hd : DF ds) :
  Calls Tryz.prog 101 #[v] w fun e w' => ∃ zs r,e = .returned r ∧ Own w.heap.size w' r zs ∧ zHA zs ∧ val zs = dval ds ∧ Below w.heap.size w w' := by
 have HT := hid (zpG h);have HDC := hid (dcanon_lst hd);have HDV := hid (zSC ds);clear h hd;generalize dlst ds = D at *;go_enter Tryz.func101,Tryz.ntmps101;go_wp2_with fail;refine HT.out.mono ?_;rintro e w1 ⟨rv,rfl,hs,rfl⟩;clear HT;obtain ⟨hw,a,cap,rfl,hlc,hcm,hm⟩ := hs;have HM := hid hm;clear hm hw;go_wp2_with (at_make;refine wpList_make_words _ rfl _ _ rfl _ _ 0 (D.length / 4 + 1) rfl rfl rfl (by omega) (by omega) (by omega) ?_)
 intro w2 hrow hb2 hsz2;have hhs : w1.heap.size < w2.heap.size := by have := hsz2.out;omega
 clear hsz2;go_wp2_with fail
 go_loopw [3,4] (fun l i wr => ∃ (t : Nat) (zs : List Int) (r : List Value),Hid (t = 0 ∨ 4 * (t - 1) < D.length) ∧ t ≤ D.length ∧ i = .int .i64 ((4 * t : Nat) : Int) ∧ l = .slice (some ⟨w1.heap.size,0,none⟩) t (D.length / 4 + 1) ∧ Hid (zs.length = t) ∧ Hid (r.length + t = D.length / 4 + 1) ∧ Hid (WF zs) ∧ Hid (val zs = dval (D.take (4 * t))) ∧
   Row wr w1.heap.size (ws zs ++ r) ∧ Below w1.heap.size w1 wr ∧ w1.heap.size < wr.heap.size) (fun _ i _ => D.length - (intOf i).toNat)
 case atStart => exact ⟨0,[],ws (List.replicate (D.length / 4 + 1) 0),.inl rfl,Nat.zero_le _,rfl,rfl,rfl,(by unfold Hid;simp [zNA]),WF.nil,rfl,(by simpa [ws] using hrow),hb2,hhs⟩
 case round =>
  clear hrow hb2 hhs;obtain ⟨t,zs,r,HT4,htl,rfl,rfl,HL,HR,HWZ,HV,hr,hb,hhs⟩ := hrel
  by_cases hlt : 4 * t < D.length
  ·rcases HM.out with e | ⟨b,off,rfl,hbg,hc⟩
   ·subst e;simp at hlt
   have HC : Hid (∀ p,p < D.length → wr.cell? ⟨b,off + p,none⟩ = some (.int .i64 (D.getD p 0))) := fun p hp => by
    rw [show D.getD p 0 = D[p] by simp [hp]];exact (hb.cell (p := ⟨b,off + p,none⟩) hbg).trans (hc p hp)
   clear hc;have hlti : ((4 * t : Nat) : Int) < (D.length : Int) := by omega
   go_wp2_with fail
   go_loop [5,6] (fun y i => ∃ (j : Nat) (yy : Int),j ≤ 4 ∧ i = .int .i64 ((j : Int) - 1) ∧ y = .int .u64 yy ∧ Hid (yy = dval ((D.drop (4 * t + j)).take (4 - j)))) (fun _ i => (intOf i + 1).toNat)
   case atStart => exact ⟨4,0,Nat.le_refl _,rfl,rfl,(by unfold Hid;simp [dval])⟩
   case round =>
    obtain ⟨j,yy,hj,rfl,rfl,HY⟩ := hrel
    by_cases hj0 : j = 0
    ·subst hj0
     have hrp : 0 < r.length := by have := HR.out;omega
     have hst := hid (zmE HDC.out.1 HWZ.out HL.out hlt HV.out (y := yy) (by rw [HY.out];simp));go_wp2_with (at_builtin;refine zrB _ rfl (.tmp 41) (.tmp 43) rfl w1.heap.size t (D.length / 4 + 1) zs r yy (hr.alloc _) HL.out hrp (by have := HR.out;omega) rfl ⟨wr.heap.size,0,none⟩ rfl (by simp) ?_)
     intro w5 hr5 hb5;have hb15 := hid ((hb.alloc (Nat.le_of_lt hhs) _).trans hb5);have hhs5 : w1.heap.size < w5.heap.size := by have := hb5.size;simp at this;omega
     have HL5 : Hid ((zs ++ [yy]).length = t + 1) := by unfold Hid;simp;exact HL.out
     have HR5 : Hid (r.tail.length + (t + 1) = D.length / 4 + 1) := by unfold Hid;simp;have := HR.out;omega
     clear hb5 hr hb HL HR HV HC HY;go_wp2;go_roundw
     case rel => exact ⟨t + 1,_,r.tail,.inr (by simpa using hlt),by omega,by go_num,rfl,HL5,HR5,hst.out.1,hst.out.2,hr5,hb15.out,hhs5⟩
     case measure => simp [intOf];omega
    ·obtain ⟨q,rfl⟩ : ∃ q,j = q + 1 := ⟨j - 1,by omega⟩
     have hcn := zsC HDC.out.1 (p := 4 * t + q) (n := 4 - (q + 1));have h3 := zVH ((HDC.out.1.drop (4 * t + (q + 1))).take (4 - (q + 1))) (by simp;omega);rw [← HY.out] at h3;rw [show 4 * t + q + 1 = 4 * t + (q + 1) by omega,← HY.out,show 4 - (q + 1) + 1 = 4 - q by omega] at hcn;obtain ⟨hc1,hd0,hd1⟩ := hcn;have HC1 := hid hc1;have hz : ¬ 4 * t + q < D.length → D.getD (4 * t + q) 0 = 0 := fun h => by simp [show D.length ≤ 4 * t + q by omega]
     have hcell := HC.out (4 * t + q);generalize D.getD (4 * t + q) 0 = d at *;obtain ⟨hy0,hy1⟩ := h3;clear hc1 hj0
     by_cases hin : 4 * t + q < D.length
     ·have hcl := hcell hin
      clear hcell hz;have hi1 : ((4 * t : Nat) : Int) + (q : Int) < (D.length : Int) := by omega
      go_wp2;go_round
      case rel => exact ⟨q,_,by omega,rfl,rfl,(by unfold Hid;rw [HC1.out];omega)⟩
      case measure => simp [intOf]
     ·have hz0 := hid (hz hin)
      clear hcell hz;have hi1 : ¬ ((4 * t : Nat) : Int) + (q : Int) < (D.length : Int) := by omega
      go_wp2;go_round
      case rel => exact ⟨q,_,by omega,rfl,rfl,(by unfold Hid;rw [HC1.out,hz0.out];omega)⟩
      case measure => simp [intOf]
  ·have hnlt : ¬ ((4 * t : Nat) : Int) < (D.length : Int) := by omega
   go_wp2;go_ret;have hv : val zs = dval D := by rw [HV.out,List.take_of_length_le (by omega)]
   refine ⟨zs,_,rfl,⟨HWZ.out,.inr ⟨w1.heap.size,r,Nat.le_refl _,?_,?_,hr⟩⟩,zUF HDC.out HWZ.out HL.out (by omega) HT4.out hv,by rw [hv,HDV.out],hb⟩
   ·have h1 := HL.out;have h2 := HR.out;omega
   ·have h1 := HL.out
    have h2 := HR.out
    show Value.slice _ t (D.length / 4 + 1) = _
    rw [h1,show t + r.length = D.length / 4 + 1 by omega]
def Told (w : World) (s : Int) (e : Ending) (w' : World) : Prop := ∃ zs r,e = .returned r ∧ Own w.heap.size w' r zs ∧ zHA zs ∧ val zs = s ∧ Below w.heap.size w w'
theorem ziD {B : Nat} {w : World} {v u : Value} {xs ys : List Int} (h : SlI B w v xs) (h' : SlI B w u ys) (hx : zlC xs) (hy : zlC ys) :
  Calls Tryz.prog 99 #[v,u] w fun e w' => e = .returned (.int .i64 (cmpI (dval xs) (dval ys))) ∧ ∃ n,w' = w.drewN n := by
 obtain ⟨hw,a,cap,rfl,hlc,hcm,hm⟩ := h;obtain ⟨hw',a',cap',rfl,hlc',hcm',hm'⟩ := h'
 by_cases hne : xs.length = ys.length
 ·have HE : Hid ((∀ j (h1 : j < xs.length) (h2 : j < ys.length),xs[j] = ys[j]) → cmpI (dval xs) (dval ys) = 0) := fun he => by
   rw [List.ext_getElem hne he,cmpI_self]
  have HH : Hid (∀ j (h1 : j < xs.length) (h2 : j < ys.length),(∀ i (h1 : i < xs.length) (h2 : i < ys.length),j < i → xs[i] = ys[i]) → xs[j] ≠ ys[j] → cmpI (dval xs) (dval ys) = cmpI xs[j] ys[j]) := fun j h1 h2 he hq => by
   refine zJI hx.1 hy.1 hne h1 ?_ hq;refine List.ext_getElem (by simp;omega) (fun i h3 h4 => ?_);simp only [List.getElem_drop];simp only [List.length_drop] at h3 h4;exact he _ _ _ (by omega)
  generalize cmpI (dval xs) (dval ys) = C at *;have HNE := hid hne;obtain ⟨n,hn⟩ : ∃ n,n = ys.length := ⟨_,rfl⟩
  rw [← hn] at hne hlc';rw [hne,← hn];rw [hne] at hlc;have HN := hid hn;have hnn : ((n : Int) != (n : Int)) = false := by simp
  clear hne hw hw' hn;go_enter Tryz.func99,Tryz.ntmps99;go_wp2_with fail
  go_loopw [5] (fun i wr => ∃ k : Nat,k ≤ n ∧ i = .int .i64 ((k : Int) - 1) ∧ (∃ q,wr = w.drewN q) ∧ ∀ j (h1 : j < xs.length) (h2 : j < ys.length),k ≤ j → xs[j] = ys[j]) (fun i _ => (intOf i + 1).toNat)
  case atStart => exact ⟨n,Nat.le_refl _,rfl,⟨0,rfl⟩,fun j h1 h2 h => by have := HN.out;omega⟩
  case round =>
   obtain ⟨k,hk,rfl,hq,he⟩ := hrel;have hcw : ∀ a,wr.cell? a = w.cell? a := by obtain ⟨q,rfl⟩ := hq;intro a;rfl
   have HQ := hid hq;have HR := hid he;clear hq he
   by_cases hk0 : k = 0
   ·subst hk0
    clear hcw;go_wp2_with fail;go_ret;refine ⟨?_,HQ.out⟩;rw [HE.out (fun j h1 h2 => HR.out j h1 h2 (by omega))]
    rfl
   ·obtain ⟨j,rfl⟩ : ∃ j,k = j + 1 := ⟨k - 1,by omega⟩
    have hj2 : j < ys.length := by have := HN.out;omega
    have hj1 : j < xs.length := by have := HNE.out;omega
    rcases hm with e | ⟨b,off,rfl,hb,hc⟩
    ·subst e;simp at hj1
    rcases hm' with e | ⟨b',off',rfl,hb',hc'⟩
    ·subst e;simp at hj2
    have c1 : wr.cell? ⟨b,off + j,none⟩ = some (.int .i64 xs[j]) := by rw [hcw];exact hc j hj1
    have c2 : wr.cell? ⟨b',off' + j,none⟩ = some (.int .i64 ys[j]) := by rw [hcw];exact hc' j hj2
    clear hcw hc hc';have HXY := hid (HH.out j hj1 hj2 (fun i h1 h2 h3 => HR.out i h1 h2 (by omega)));have HX : Hid (∀ i (h1 : i < xs.length) (h2 : i < ys.length),xs[j] = ys[j] → j ≤ i → xs[i] = ys[i]) := fun i h1 h2 he hi => by
     by_cases e : i = j
     ·subst e;exact he
     ·exact HR.out i h1 h2 (by omega)
    generalize xs[j] = x at *;generalize ys[j] = y at *;clear hk0 HR;have i0 : (0 : Int) ≤ (j : Int) := by omega
    have i1 : (j : Int) < (n : Int) := by omega
    rcases Int.lt_trichotomy x y with q | q | q
    ·go_wp2_with fail
     go_quiet (fail);go_wp2;go_ret;refine ⟨?_,by obtain ⟨q,hq⟩ := HQ.out;exact ⟨q + nq,by rw [hq,World.drewN_drewN]⟩⟩;rw [HXY.out (by omega),zhA q]
     rfl
    ·have q1 : ¬ x < y := by omega
     have q2 : ¬ y < x := by omega
     have Q := hid q;clear q;go_wp2_with fail;go_quiet (fail);go_wp2_with fail;go_quiet (fail);go_wp2;go_roundw
     case rel => exact ⟨j,by omega,rfl,zeG HQ.out _,fun i h1 h2 h3 => HX.out i h1 h2 Q.out h3⟩
     case measure => simp [intOf]
    ·have q1 : ¬ x < y := by omega
     go_wp2_with fail;go_quiet (fail);go_wp2_with fail;go_quiet (fail);go_wp2;go_ret;refine ⟨?_,zeG (zeG HQ.out _) _⟩;rw [HXY.out (by omega),ziA q]
     rfl
 ·have hnn : ((xs.length : Int) != (ys.length : Int)) = true := by rw [bne_iff_ne];omega
  have HC : Hid (cmpI (dval xs) (dval ys) = cmpI (xs.length : Int) (ys.length : Int)) := by
   unfold Hid;rw [dcmp_widths hx.1 hy.1 (by rw [hx.2,hy.2];exact hne),hx.2,hy.2]
  generalize cmpI (dval xs) (dval ys) = C at *
  by_cases hlt : (xs.length : Int) < (ys.length : Int)
  ·rw [HC.out,zhA hlt]
   clear HC hx hy hm hm' hw hw';go_enter Tryz.func99,Tryz.ntmps99;go_wp2;go_ret;exact ⟨rfl,0,rfl⟩
  ·rw [HC.out,ziA (by omega)]
   clear HC hx hy hm hm' hw hw';go_enter Tryz.func99,Tryz.ntmps99;go_wp2;go_ret;exact ⟨rfl,0,rfl⟩
theorem rleast_any {w : World} {v : Value} {xs : List Int} (h : Sl w.heap.size w v xs) (hlen : xs.length ≤ 8796093022208) :
  Calls Tryz.prog 97 #[v] w (Told w (val xs)) := by
 have HS := hid (zLB h hlen);clear h;go_enter Tryz.func97,Tryz.ntmps97;go_wp2_with fail;refine HS.out.mono ?_;rintro e w1 ⟨ds,r,rfl,hs,hc,hv,_,hb⟩;have HV := hid hv;clear hv HS;go_wp2_with fail;refine (zsF hs hc.1).mono ?_;rintro e w2 ⟨zs,q,rfl,ho,hcz,hvz,hb2⟩;have HVZ := hid hvz;clear hvz;go_wp2;go_ret;refine ⟨zs,q,rfl,⟨ho.1,?_⟩,hcz,by rw [HVZ.out,HV.out],below_step hb hb2⟩;rcases ho.2 with h1 | ⟨g,r',h1,h2,h3,h4⟩
 ·exact .inl h1
 ·exact .inr ⟨g,r',Nat.le_trans hb.size h1,h2,h3,h4⟩
theorem zAH {w : World} {v u : Value} {xs ys : List Int} (h : Sl w.heap.size w v xs) (h' : Sl w.heap.size w u ys) (hlen : xs.length ≤ 8796093022208) (hlen' : ys.length ≤ 8796093022208) :
  Calls Tryz.prog 62 #[v,u] w fun e w' => e = .returned (.int .i64 (cmpI (val xs) (val ys))) ∧ Below w.heap.size w w' := by
 go_enter Tryz.func62,Tryz.ntmps62;go_wp2_with fail;refine (zLB h hlen).mono ?_;rintro e w1 ⟨ds,r,rfl,hs,hc,hv,_,hb⟩;have h1 := h'.now hb;have HV := hid hv;clear hv h h';go_wp2_with fail;refine (zLB h1 hlen').mono ?_;rintro e w2 ⟨ds',r',rfl,hs',hc',hv',_,hb2⟩;have h2 := hs.now hb2;have HV' := hid hv';have hb12 := below_step hb hb2;clear hv' h1 hs hb hb2;go_wp2_with fail;refine (ziD h2 hs' hc hc').mono ?_;rintro e w3 ⟨rfl,n,rfl⟩;rw [HV.out,HV'.out];go_wp2;go_ret;exact ⟨rfl,below_drewN hb12 n⟩
theorem znB {w : World} {n : Bool} {xs : List Int} {a : Option Addr} {c : Nat} (h : Sl w.heap.size w (.slice a xs.length c) xs) (hl : xs.length ≤ 8796093022208) :
  Calls Tryz.prog 61 #[.bool n,.slice a xs.length c] w (zOA w (iv n xs) xs.length) := by
 obtain ⟨W0,hW0⟩ : ∃ W0,w.alloc zbox = W0 := ⟨_,rfl⟩
 obtain ⟨b0,sz0⟩ := zEB w zbox;rw [hW0] at b0 sz0;have r0 : Duo W0 w.heap.size (.bool false) (.slice none 0 0) := by rw [← hW0];exact zCA rfl
 have hx := hid h.1;have HL := hid (rleast_any (h.now b0) hl);have R0 := hid r0;have EW := hid hW0;have G := hid b0;clear h r0 hW0 b0 hl;go_enter Tryz.func61,Tryz.ntmps61;go_wp2_with fail;rw [EW.out];refine HL.out.mono ?_;rintro e w1 ⟨zs,r,rfl,ho,hc,hv,b1⟩;obtain ⟨az,cz,rfl⟩ := ho.form;have HM := hid ho.mine5;have HC := hid hc;have hk : Hid (zs.length ≤ xs.length) := zSA hc (by rw [hv];exact zUA hx.out);have HV := hid (zVF n hv);replace R0 := hid (R0.out.step b1);replace G := hid (below_step G.out b1);have y0 := R0.out.c0;have y1 := R0.out.c1;have f0 := R0.out.fz 0;have f1 := R0.out.fz 1;clear ho hc hv b1 HL;have fin : Hid (zOA w (iv n xs) xs.length (.returned (.agg #[.bool (n && decide (0 < zs.length)),.slice az zs.length cz])) ((w1.setCell ⟨w.heap.size,0,none⟩ (.bool (n && decide (0 < zs.length)))).setCell ⟨w.heap.size,1,none⟩ (.slice az zs.length cz))) := by
  unfold Hid;rw [← HV.out];exact zWB (B := W0.heap.size) (ziF HM.out HC.out hk.out) G.out (by omega) (by omega)
 cases n
 ·go_wp2
  exact bodyPost_ret (zBB Tryz.results61 (R0.out.set _ _) _ (by rfl)) rfl fin.out
 ·simp only [Bool.true_and] at fin
  go_wp2;exact bodyPost_ret (zBB Tryz.results61 (R0.out.set _ _) _ (by rfl)) rfl fin.out
theorem digit_step {zs : List Int} {y R : Int} {p : Nat} (hp : p < zs.length) (h0 : zs[p] = 0) (hv : dval zs + dpw p * y = R) : dval (zs.set p (y % 65536)) + dpw (p + 1) * (y / 65536) = R := by
 rw [zRC zs p _ hp,h0,dpw];unfold dwB;have e : y = y % 65536 + 65536 * (y / 65536) := by omega
 generalize y % 65536 = a at *;generalize y / 65536 = b at *;subst e
 grind
theorem digit_is {y : Int} (h : 0 ≤ y) : IsD (y % 65536) := by unfold IsD dwB;omega
theorem zfF {w : World} {v : Value} {xs : List Int} (h : Sl w.heap.size w v xs) (hlen : xs.length ≤ 8796093022208) :
  Calls Tryz.prog 102 #[v] w fun e w' => ∃ ds r,e = .returned r ∧ SlI w'.heap.size w' r ds ∧ zlC ds ∧ dval ds = val xs ∧ ds.length ≤ 4 * xs.length ∧ Below w.heap.size w w' := by
 obtain ⟨hw,a,cap,rfl,hlc,hcm,hm⟩ := h;have HW := hid hw;have HM := hid hm;have HTL : Hid (xs.take xs.length = xs) := by unfold Hid;simp
 have HV0 : Hid (∀ n,dval (List.replicate n 0) = 0) := fun n => by
  induction n with
  | zero => rfl
  | succ n ih => rw [List.replicate_succ,dval,ih];omega
 clear hm hw;go_enter Tryz.func102,Tryz.ntmps102;go_wp2_with (at_make;refine zfA _ rfl _ _ rfl _ _ (4 * xs.length) (4 * xs.length) rfl rfl (by omega) (by omega) (by omega) (by omega) ?_)
 intro w2 hrow hb2 hsz2;have hhs : w.heap.size < w2.heap.size := by have := hsz2.out;omega
 clear hsz2;go_wp2_with fail
 go_loopw [4] (fun i wr => ∃ (k : Nat) (zs : List Int),k ≤ xs.length ∧ i = .int .i64 k ∧ Hid (zs.length = 4 * xs.length) ∧ Hid (DF zs) ∧ Hid (∀ j (h : j < zs.length),4 * k ≤ j → zs[j] = 0) ∧ Hid (dval zs = val (xs.take k)) ∧
   Hid (RowI wr w.heap.size (wi zs)) ∧ Hid (Below w.heap.size w wr)) (fun i _ => xs.length - (intOf i).toNat)
 case atStart => exact ⟨0,List.replicate (4 * xs.length) 0,Nat.zero_le _,rfl,(by unfold Hid;simp),(fun x hx => by rw [(List.mem_replicate.1 hx).2];unfold IsD dwB;omega),(fun j h _ => by simp),(by unfold Hid;rw [HV0.out];simp [val]),hrow,hb2⟩
 case round =>
  clear hrow hb2 hhs;obtain ⟨k,zs,hk,rfl,HL,HD,HZ,HV,hr,hb⟩ := hrel
  by_cases hlt : k < xs.length
  ·rcases HM.out with e | ⟨b,off,rfl,hbg,hc⟩
   ·subst e;simp at hlt
   have c1 : wr.cell? ⟨b,off + k,none⟩ = some (.int .u64 xs[k]) := (hb.out.cell (p := ⟨b,off + k,none⟩) hbg).trans (hc k hlt);have hx := HW.out.get hlt;have HTK := hid (zPA xs k hlt);clear hc;generalize xs[k] = x at *;unfold IsW wB at hx;obtain ⟨hx0,hx1⟩ := hx;have HV1 : Hid (dval zs + dpw (4 * k + 0) * x = val (xs.take k) + x * pw k) := by
    unfold Hid;rw [HV.out,Nat.add_zero,zqC,Int.mul_comm]
   have HB1 : Hid (x * 65536 ^ 0 ≤ 18446744073709551615) := by unfold Hid;simp;omega
   go_wp2_with fail
   go_loopw [5,6] (fun y i wr => ∃ (j : Nat) (zs : List Int) (yy : Int),j ≤ 4 ∧ i = .int .i64 j ∧ y = .int .u64 yy ∧ 0 ≤ yy ∧ yy ≤ 18446744073709551615 ∧ Hid (zs.length = 4 * xs.length) ∧ Hid (DF zs) ∧ Hid (∀ t (h : t < zs.length),4 * k + j ≤ t → zs[t] = 0) ∧
     Hid (yy * 65536 ^ j ≤ 18446744073709551615) ∧ Hid (dval zs + dpw (4 * k + j) * yy = val (xs.take k) + x * pw k) ∧ Hid (RowI wr w.heap.size (wi zs)) ∧ Hid (Below w.heap.size w wr)) (fun _ i _ => 4 - (intOf i).toNat)
   case atStart => exact ⟨0,zs,x,by omega,rfl,rfl,hx0,by omega,HL,HD,HZ,HB1,HV1,hr,hb⟩
   case round =>
    clear HL HD HB1 HV1 hr hb HV HZ;obtain ⟨j,zs,yy,hj,rfl,rfl,hy0,hy1,HL,HD,HZ,HB,HV,hr,hb⟩ := hrel
    by_cases hj4 : j < 4
    ·have hp : 4 * k + j < zs.length := by have := HL.out;omega
     have hz := HZ.out _ hp (Nat.le_refl _);have c2 : wr.cell? ⟨w.heap.size,4 * k + j,none⟩ = some (.int .i64 zs[4 * k + j]) := RowI.num (r := []) (by simpa using hr.out) hp;have cf : wr.frozen? ⟨w.heap.size,4 * k + j,none⟩ = false := hr.out.frozen _;have hst := hid (digit_step hp hz HV.out);have hbd := hid (zCD HB.out);have HR2 := hid (RowI.setNum (r := []) (by simpa using hr.out) hp (yy % 65536));have HB2 := hid (hb.out.setCell (p := ⟨w.heap.size,4 * k + j,none⟩) (Nat.le_refl _) (.int .i64 (yy % 65536)));have HD2 := hid (HD.out.set (4 * k + j) (digit_is hy0));have HL2 : Hid ((zs.set (4 * k + j) (yy % 65536)).length = 4 * xs.length) := by unfold Hid;rw [List.length_set];exact HL.out
     have HZ2 : Hid (∀ t (h : t < (zs.set (4 * k + j) (yy % 65536)).length),4 * k + (j + 1) ≤ t → (zs.set (4 * k + j) (yy % 65536))[t] = 0) := fun t h ht => by
      rw [List.getElem_set_ne (by omega)];exact HZ.out t (by simpa using h) (by omega)
     generalize zs[4 * k + j] = z at *;generalize zs.set (4 * k + j) (yy % 65536) = zs' at *;clear HL HD HZ HB HV hr hb hz;go_wp2;go_roundw
     case rel => exact ⟨j + 1,zs',yy / 65536,by omega,by go_num,rfl,by omega,by omega,HL2,HD2,HZ2,hbd,hst,(by simpa using HR2),HB2⟩
     case measure => first | (simp [intOf];done) | (simp [intOf];omega)
    ·obtain rfl : j = 4 := by omega
     have hy : yy = 0 := by
      have := HB.out;rw [show (65536 : Int) ^ 4 = 18446744073709551616 from by decide] at this;omega
     have HV5 : Hid (dval zs = val (xs.take (k + 1))) := by
      unfold Hid;have := HV.out;rw [hy] at this;rw [HTK.out];simpa using this
     clear hy HB HV;go_wp2;go_roundw
     case rel => exact ⟨k + 1,zs,by omega,by go_num,HL,HD,(fun t h ht => HZ.out t h (by omega)),HV5,hr,hb⟩
     case measure => first | (simp [intOf];done) | (simp [intOf];omega)
  ·obtain rfl : k = xs.length := by omega
   rw [HTL.out] at HV;have HWI : Hid (∀ n : Nat,n ≤ zs.length → (∀ j (h : j < zs.length),n ≤ j → zs[j] = 0) → (0 < n → ∀ h' : n - 1 < zs.length,zs[n - 1] ≠ 0) → dwid zs = n) := fun n h1 h2 h3 => ziC h1 h2 h3
   have HSL : Hid (∀ n,dwid zs = n → SlI wr.heap.size wr (.slice (some ⟨w.heap.size,0,none⟩) n (4 * xs.length)) (dlst zs)) := fun n hn => by
    have h1 := zPC zs;have h2 := HL.out;refine ⟨fun p hp => ?_,_,_,by rw [dlength_lst,hn],by rw [dlength_lst];omega,by omega,.inr ⟨_,0,rfl,hr.out.lt,fun j hj => ?_⟩⟩
    ·have := HD.out p (List.mem_of_mem_take hp)
     unfold IsD dwB at this;omega
    ·have hj' : j < zs.length := by rw [dlength_lst] at hj;omega
     rw [Nat.zero_add,RowI.num (r := []) (by simpa using hr.out) hj'];simp [dlst]
   go_wp2_with fail
   go_loop [7] (fun i => ∃ n : Nat,n ≤ zs.length ∧ i = .int .i64 n ∧ Hid (∀ j (h : j < zs.length),n ≤ j → zs[j] = 0)) (fun i => (intOf i).toNat)
   case atStart => exact ⟨zs.length,Nat.le_refl _,(by rw [HL.out];go_num),fun j h h' => by omega⟩
   case round =>
    clear HZ;obtain ⟨n,hn,rfl,HZ⟩ := hrel;have fin : ∀ m,dwid zs = m → ∃ ds r,Ending.returned (Value.slice (some ⟨w.heap.size,0,none⟩) m (4 * xs.length)) = Ending.returned r ∧ SlI wr.heap.size wr r ds ∧ zlC ds ∧ dval ds = val xs ∧ ds.length ≤ 4 * xs.length ∧ Below w.heap.size w wr := fun m hm =>
     ⟨dlst zs,_,rfl,HSL.out m hm,dcanon_lst HD.out,by rw [zSC,HV.out],by rw [dlength_lst];have := zPC zs;have := HL.out;omega,hb.out⟩
    have FIN := hid fin;clear fin;have hlz : zs.length = 4 * xs.length := HL.out
    by_cases h0 : n = 0
    ·subst h0
     have HE := hid (HWI.out 0 (by omega) HZ.out (by omega));go_wp2;go_ret;exact FIN.out 0 HE.out
    ·obtain ⟨m,rfl⟩ : ∃ m,n = m + 1 := ⟨n - 1,by omega⟩
     have hm2 : m < zs.length := by omega
     have c3 : wr.cell? ⟨w.heap.size,m,none⟩ = some (.int .i64 zs[m]) := RowI.num (r := []) (by simpa using hr.out) hm2;obtain ⟨x,hx⟩ : ∃ x,x = zs[m] := ⟨_,rfl⟩
     rw [← hx] at c3;have HX := hid hx;clear hx h0
     by_cases hx0 : x = 0
     ·have ht : (x == 0) = true := by simp [hx0]
      have HX0 := hid hx0;clear hx0;go_wp2;go_round
      case rel =>
       refine ⟨m,by omega,by go_num,fun j h hj => ?_⟩
       by_cases e : j = m
       ·subst e;rw [← HX.out];exact HX0.out
       ·exact HZ.out j h (by omega)
      case measure => first | (simp [intOf];done) | (simp [intOf];omega)
     ·have ht : (x == 0) = false := by simp [hx0]
      have HE := hid (HWI.out (m + 1) hn HZ.out (fun _ h' => by have := HX.out;simp at h' ⊢;rw [← this];exact hx0));go_wp2;go_ret;exact FIN.out (m + 1) HE.out
end Go.Proofs.YtkdobgbicnemcaaGreatDoor
