/-
 QOnto4ToRRead4: Onto4, JoinJ4, RRead4, joined.
-/
import Derived.Test.YtkdobgbicnemcaaGreatDoorQRText4ToItr4
import Derived.Test.YtkdobgbicnemcaaGreatDoorQSplitToRDigits

set_option maxRecDepth 100000
set_option maxHeartbeats 6400000
set_option linter.unusedVariables false
set_option linter.unusedSimpArgs false
namespace Go.Proofs.YtkdobgbicnemcaaGreatDoor
open Go.RowKit
def OntH (w : World) (Bk : Nat) (a : Option Addr) (n cap : Nat) (ds : List Int) (b : Nat) (v0 : Int) (gk : Nat) (s2 s7 : Value) (wx : World) : Prop :=
 ∃ (i : Nat) (c : Int) (es : List Int),gk = n - i ∧ s2 = .int .i64 c ∧ s7 = .int .i64 (i : Int) ∧ i ≤ n ∧ 0 ≤ c ∧ c < (b : Int) ∧ es.length = i ∧ DF es ∧ dval es + dpw i * c = (b : Int) * dval (ds.take i) + v0 ∧ Itr Bk wx (.slice a n cap) (es ++ ds.drop i) ∧ Below Bk w wx
def zYH (w : World) (Bk : Nat) (ds : List Int) (b : Nat) (v0 : Int) (e : Ending) (w' : World) : Prop :=
 ∃ a n cap ds',e = .returned (.slice a n cap) ∧ Itr Bk w' (.slice a n cap) ds' ∧ ds'.length = n ∧ DF ds' ∧ dval ds' = (b : Int) * dval ds + v0 ∧ ds'.length ≤ ds.length + 1 ∧ Below Bk w w'
theorem onto_any {w : World} {Bk n cap b : Nat} {a : Option Addr} {ds : List Int} {v0 : Int} (h : Itr Bk w (.slice a n cap) ds) (hn : ds.length = n) (hd : DF ds) (hb : 2 ≤ b) (hb2 : b ≤ 36) (h0 : 0 ≤ v0) (h1 : v0 < (b : Int)) (hl : n ≤ 100000000) (hB : Bk ≤ w.heap.size) :
  Calls Tryz.prog 155 #[.slice a n cap,.int .i64 (b : Int),.int .i64 v0] w (zYH w Bk ds b v0) := by
 have HN := hid hn;have HD := hid hd;have HB := hid hB;have H0 : Hid (OntH w Bk a n cap ds b v0 n (.int .i64 v0) (.int .i64 0) w) := ⟨0,v0,[],by omega,rfl,rfl,Nat.zero_le _,h0,h1,rfl,DF.nil,by simp [dval,dpw],by simpa using h,Below.refl _ _⟩
 clear h hn hd hB;go_enter Tryz.func155,Tryz.ntmps155;go_wp2_with fail
 go_loopg [2,7] n (fun gk s2 s7 wx => OntH w Bk a n cap ds b v0 gk s2 s7 wx)
 case atStart => exact H0.out
 case round =>
  clear H0 h0 h1;obtain ⟨i,c,es,hgk,rfl,rfl,hi,hc0,hc1,hel,hed,hev,hit,hbl⟩ := hrel;have HG := hid hgk;have HBL := hid hbl;have HED := hid hed;have HEV := hid hev;have HEL := hid hel;clear hgk hbl hed hev hel
  by_cases hlt : i < n
  ·have hlt' : (i : Int) < (n : Int) := by omega
   have hid_ : i < ds.length := by rw [HN.out];exact hlt
   have hLl : (es ++ ds.drop i).length = n := by rw [List.length_append,HEL.out,List.length_drop,HN.out];omega
   obtain ⟨g,cap',rest,he,hg,hgl,hrow,hcp,hcm⟩ := hit.row (by rw [hLl];omega);simp only [Value.slice.injEq] at he;obtain ⟨rfl,-,rfl⟩ := he;have c0 := hrow.num (i := i) (by rw [hLl];omega);have e0 : (es ++ ds.drop i)[i]'(by rw [hLl];omega) = ds[i] := by
    rw [List.getElem_append_right (by rw [HEL.out];exact Nat.le_refl _)];simp [HEL.out]
   rw [e0] at c0;have f0 := hrow.frozen i;have hx := HD.out.get hid_;have HST := hid (onto_step (x := ds[i]) hid_ rfl HEL.out HED.out HEV.out);have HSN : Hid (∀ z,Itr Bk (wr.setCell ⟨g,i,none⟩ (.int .i64 z)) (.slice (some ⟨g,0,none⟩) n cap) ((es ++ [z]) ++ ds.drop (i + 1))) := fun z => by
    have q := hrow.setNum (i := i) (by rw [hLl];omega) z;rw [set_mid HEL.out hid_] at q;have hl2 : (es ++ [z] ++ ds.drop (i + 1)).length = n := by rw [List.length_append,List.length_append,HEL.out,List.length_drop,HN.out];simp;omega
    have r := Itr.of (cap := cap) hg q (by rw [hl2];rw [hLl] at hcp;exact hcp) hcm;rw [hl2] at r;exact r
   generalize ds[i] = x at *;unfold IsD dwB at hx;obtain ⟨hx0,hx1⟩ := hx;have hxb0 : 0 ≤ x * (b : Int) := Int.mul_nonneg hx0 (by omega);have hxb1 : x * (b : Int) ≤ 65535 * (b : Int) := Int.mul_le_mul_of_nonneg_right (by omega) (by omega);have hw1 : IntKind.i64.wrap (x * (b : Int)) = x * (b : Int) := by rw [zYA] <;> omega
   have hw2 : IntKind.i64.wrap (x * (b : Int) + c) = x * (b : Int) + c := by rw [zYA] <;> omega
   have E1 : Hid (wrap64 (x * (b : Int) + c) = x * (b : Int) + c) := by unfold Hid wrap64;omega
   have E0 : Hid (wrap64 (x * (b : Int)) = x * (b : Int)) := by unfold Hid wrap64;omega
   have hw3 : IntKind.i64.wrap ((i : Int) + 1) = ((i + 1 : Nat) : Int) := by rw [zYA] <;> omega
   have HSB : Hid (0 ≤ (x * (b : Int) + c) / 65536 ∧ (x * (b : Int) + c) / 65536 < (b : Int)) := ⟨by omega,by omega⟩
   have HN1 : Hid (OntH w Bk (some ⟨g,0,none⟩) n cap ds b v0 (n - (i + 1)) (.int .i64 ((x * (b : Int) + c) / 65536)) (.int .i64 ((i + 1 : Nat) : Int)) (wr.setCell ⟨g,i,none⟩ (.int .i64 ((x * (b : Int) + c) % 65536)))) :=
    ⟨i + 1,_,_,rfl,rfl,rfl,by omega,HSB.out.1,HSB.out.2,by rw [List.length_append,HEL.out];rfl,HST.out.1,HST.out.2,HSN.out _,HBL.out.setCell (p := ⟨g,i,none⟩) hg _⟩
   have HMM : Hid (n - (i + 1) < gk) := by unfold Hid;rw [HG.out];omega
   have hs0 : 0 ≤ x * (b : Int) + c := by omega
   have hs1 : x * (b : Int) + c ≤ 9223372036854775807 := by omega
   obtain ⟨sv,hsv⟩ : ∃ sv,x * (b : Int) + c = sv := ⟨_,rfl⟩
   rw [hsv] at hw2 E1 HN1 hs0 hs1;have HSV := hid hsv;have hq1 : sv.tdiv 65536 = sv / 65536 := Int.tdiv_eq_ediv_of_nonneg hs0;have hq2 : sv.tmod 65536 = sv % 65536 := Int.tmod_eq_emod_of_nonneg hs0;have hwq : IntKind.i64.wrap (sv / 65536) = sv / 65536 := by rw [zYA] <;> omega
   have hwr : IntKind.i64.wrap (sv % 65536) = sv % 65536 := by rw [zYA] <;> omega
   have E2 : Hid (wrap64 (sv.tdiv 65536) = sv / 65536) := by unfold Hid;rw [hq1];unfold wrap64;omega
   have E3 : Hid ((i : Int) + 1 = ((i + 1 : Nat) : Int)) := by unfold Hid;omega
   have E4 : Hid (sv.tmod 65536 = sv % 65536) := hq2;clear hrow hLl e0 hid_ HST HSN HEL HED HEV HG HSB hcp hcm hit HBL hxb0 hxb1 hsv hc0 hc1 hx0 hx1;go_wp2_with fail;go_roundg (n - (i + 1))
   case rel =>
    rw [HSV.out,E1.out,E2.out,E3.out,E4.out];exact HN1.out
   case measure => exact HMM.out
  ·have hlt' : ¬ (i : Int) < (n : Int) := by omega
   obtain rfl : i = n := by omega
   rw [List.drop_of_length_le (by rw [HN.out];exact Nat.le_refl _),List.append_nil] at hit;have HIT := hid hit;have HEV2 : Hid (dval es + dpw i * c = (b : Int) * dval ds + v0) := by
    have q := HEV.out;rw [List.take_of_length_le (by rw [HN.out];exact Nat.le_refl _)] at q;exact q
   clear hit HEV HG
   by_cases hcz : 0 < c
   ·have HCC : Hid (∀ z : Int,(wr.alloc (.cells #[.int .i64 z] 3)).cell? ⟨wr.heap.size,0,none⟩ = some (.int .i64 z)) := fun z => by simp
    have HI4 : Hid (∀ z : Int,Itr Bk (wr.alloc (.cells #[.int .i64 z] 3)) (.slice a i cap) es) := fun z => HIT.out.now (alo4 wr _).1
    have HBQ : Hid (∀ z : Int,Bk ≤ (wr.alloc (.cells #[.int .i64 z] 3)).heap.size) := fun z => Nat.le_trans (Nat.le_trans HB.out HBL.out.size) (alo4 wr _).1.size
    have HLL : Hid (es.length ≤ 1000000000) := by unfold Hid;rw [HEL.out];omega
    have HBW : Hid (∀ (z : Int) w',Below Bk (wr.alloc (.cells #[.int .i64 z] 3)) w' → Below Bk w w') := fun z w' h => (HBL.out.alloc (Nat.le_trans HB.out HBL.out.size) _).trans h
    clear HBL HIT;go_wp2_with (at_builtin;refine wpList_append_itr _ rfl (.tmp 32) (.tmp 34) rfl Bk _ es c rfl (HI4.out _) wr.heap.size rfl (HCC.out _) HLL.out (HBQ.out _) ?_)
    intro a5 cap5 w5 hi5 hb5;have FIN : Hid (zYH w Bk ds b v0 (.returned (.slice a5 (es.length + 1) cap5)) w5) := ⟨a5,_,cap5,es ++ [c],rfl,hi5.out,by simp,HED.out.append (DF.cons ⟨by omega,by unfold dwB;omega⟩ DF.nil),by
     rw [zHB,HEL.out,← HEV2.out];simp [dval],by rw [List.length_append,HEL.out,HN.out];exact Nat.le_refl _,HBW.out _ _ hb5.out⟩
    clear hi5 hb5 HCC HI4 HBQ HLL HBW;obtain ⟨m5,hm5⟩ : ∃ m5,es.length + 1 = m5 := ⟨_,rfl⟩
    rw [hm5] at FIN ⊢;clear hm5;go_wp2;go_ret;exact FIN.out
   ·have hc' : c = 0 := by omega
    have FIN : Hid (zYH w Bk ds b v0 (.returned (.slice a i cap)) wr) := ⟨a,i,cap,es,rfl,HIT.out,HEL.out,HED.out,by rw [← HEV2.out,hc'];simp,by rw [HEL.out,HN.out];omega,HBL.out⟩
    clear HIT HBL HED HEV2 hc';go_wp2;go_ret;exact FIN.out
def SlJ (B : Nat) (w : World) (v : Value) (ps : List Int) : Prop :=
 (∀ p ∈ ps,-9223372036854775808 ≤ p ∧ p ≤ 9223372036854775807) ∧ ps.length ≤ 35184372088832 ∧ ∃ a cap,v = .slice a ps.length cap ∧ ps.length ≤ cap ∧
  (ps = [] ∨ ∃ b off,a = some ⟨b,off,none⟩ ∧ b < B ∧ ∀ j (h : j < ps.length),w.cell? ⟨b,off + j,none⟩ = some (.int .i64 ps[j]))
theorem trim_j {B : Nat} {w : World} {v : Value} {xs : List Int} (h : SlJ B w v xs) :
  Calls Tryz.prog 127 #[v] w fun e w' => ∃ r,e = .returned r ∧ SlJ B w r (dlst xs) ∧ w' = w := by
 have hs := h;obtain ⟨hw,hcm,a,cap,rfl,hlc,hm⟩ := h;have HW : Hid (∀ n : Nat,n ≤ xs.length → (∀ j (h : j < xs.length),n ≤ j → xs[j] = 0) → (0 < n → ∀ h' : n - 1 < xs.length,xs[n - 1] ≠ 0) → dwid xs = n) := fun n h1 h2 h3 => ziC h1 h2 h3
 have HF : Hid (∀ n,dwid xs = n → SlJ B w (.slice a n cap) (dlst xs)) := fun n hn => by
  subst hn;have l := zPC xs;refine ⟨fun p hp => hw p (List.mem_of_mem_take hp),by rw [dlength_lst];omega,a,cap,by rw [dlength_lst],by rw [dlength_lst];omega,?_⟩;rcases hm with rfl | ⟨b,off,h1,h2,h3⟩
  ·exact .inl rfl
  ·refine .inr ⟨b,off,h1,h2,fun j hj => ?_⟩
   rw [dlength_lst] at hj;rw [h3 j (by omega),zTH hj]
 have HM := hid hm;clear hs;go_enter Tryz.func127,Tryz.ntmps127;go_wp2
 go_loop [3] (fun i => ∃ n : Nat,n ≤ xs.length ∧ i = .int .i64 n ∧ ∀ j (h : j < xs.length),n ≤ j → xs[j] = 0) (fun i => (intOf i).toNat)
 case atStart => exact ⟨xs.length,Nat.le_refl _,rfl,fun j h h' => by omega⟩
 case round =>
  obtain ⟨n,hn,rfl,hz⟩ := hrel;have HZ := hid hz;clear hz hm
  by_cases h0 : n = 0
  ·subst h0
   go_wp2;go_ret;exact ⟨_,rfl,HF.out 0 (HW.out 0 (by omega) HZ.out (by omega)),rfl⟩
  ·obtain ⟨k,rfl⟩ : ∃ k,n = k + 1 := ⟨n - 1,by omega⟩
   rcases HM.out with rfl | ⟨b,off,rfl,hb,hc⟩
   ·simp at hn
   ·have hk : k < xs.length := by omega
    have hck := hc k hk;obtain ⟨x,hx⟩ : ∃ x,x = xs[k] := ⟨_,rfl⟩
    rw [← hx] at hck;have HX : Hid (x = xs[k]) := hx;clear hx hc h0
    by_cases hx0 : x = 0
    ·have ht : (x == 0) = true := by simp [hx0]
     go_wp2;go_round
     case rel =>
      refine ⟨k,by omega,rfl,fun j h hj => ?_⟩
      by_cases e : j = k
      ·subst e;rw [← HX.out];exact hx0
      ·exact HZ.out j h (by omega)
     case measure => simp [intOf]
    ·have ht : (x == 0) = false := by simp [hx0]
     go_wp2;go_ret;exact ⟨_,rfl,HF.out (k + 1) (HW.out (k + 1) hn HZ.out (fun _ h' => by have := HX.out;simp at h' ⊢;rw [← this];exact hx0)),rfl⟩
theorem join_j {w : World} {v : Value} {ds : List Int} (h : SlJ w.heap.size w v ds) (hd : DF ds) :
  Calls Tryz.prog 101 #[v] w fun e w' => ∃ zs r,e = .returned r ∧ Own w.heap.size w' r zs ∧ zHA zs ∧ val zs = dval ds ∧ Below w.heap.size w w' := by
 have HT := hid (trim_j h);have HDC := hid (dcanon_lst hd);have HDV := hid (zSC ds);clear h hd;generalize dlst ds = D at *;go_enter Tryz.func101,Tryz.ntmps101;go_wp2_with fail;refine HT.out.mono ?_;rintro e w1 ⟨rv,rfl,hs,rfl⟩;clear HT;obtain ⟨hw,hcm,a,cap,rfl,hlc,hm⟩ := hs;have HM := hid hm;clear hm hw;go_wp2_with (at_make;refine wpList_make_words _ rfl _ _ rfl _ _ 0 (D.length / 4 + 1) rfl rfl rfl (by omega) (by omega) (by omega) ?_)
 intro w2 hrow hb2 hsz2;have hhs : w1.heap.size < w2.heap.size := by have := hsz2.out;omega
 clear hsz2;go_wp2_with fail
 go_loopw [3,4] (fun l i wr => ∃ (t : Nat) (zs : List Int) (r : List Value),Hid (t = 0 ∨ 4 * (t - 1) < D.length) ∧ t ≤ D.length ∧ i = .int .i64 ((4 * t : Nat) : Int) ∧ l = .slice (some ⟨w1.heap.size,0,none⟩) t (D.length / 4 + 1) ∧ Hid (zs.length = t) ∧ Hid (r.length + t = D.length / 4 + 1) ∧ Hid (WF zs) ∧ Hid (val zs = dval (D.take (4 * t))) ∧
   Row wr w1.heap.size (ws zs ++ r) ∧ Below w1.heap.size w1 wr ∧ w1.heap.size < wr.heap.size) (fun _ i _ => D.length - (intOf i).toNat)
 case atStart => exact ⟨0,[],ws (List.replicate (D.length / 4 + 1) 0),.inl rfl,Nat.zero_le _,rfl,rfl,rfl,(by unfold Hid;simp [zNA]),WF.nil,rfl,(by simpa [ws] using hrow),hb2,hhs⟩
 case round =>
  clear hrow hb2 hhs;obtain ⟨t,zs,r,HT4,htl,rfl,rfl,HL,HR,HWZ,HV,hr,hb,hhs⟩ := hrel
  by_cases hlt : 4 * t < D.length
  ·rcases HM.out with e | ⟨b,off,rfl,hbg,hc⟩
   ·subst e;simp at hlt
   have HC : Hid (∀ p,p < D.length → wr.cell? ⟨b,off + p,none⟩ = some (.int .i64 (D.getD p 0))) := fun p hp => by
    rw [show D.getD p 0 = D[p] by simp [hp]];exact (hb.cell (p := ⟨b,off + p,none⟩) hbg).trans (hc p hp)
   clear hc;have hlti : ((4 * t : Nat) : Int) < (D.length : Int) := by omega
   go_wp2_with fail
   go_loop [5,6] (fun y i => ∃ (j : Nat) (yy : Int),j ≤ 4 ∧ i = .int .i64 ((j : Int) - 1) ∧ y = .int .u64 yy ∧ Hid (yy = dval ((D.drop (4 * t + j)).take (4 - j)))) (fun _ i => (intOf i + 1).toNat)
   case atStart => exact ⟨4,0,Nat.le_refl _,rfl,rfl,(by unfold Hid;simp [dval])⟩
   case round =>
    obtain ⟨j,yy,hj,rfl,rfl,HY⟩ := hrel
    by_cases hj0 : j = 0
    ·subst hj0
     have hrp : 0 < r.length := by have := HR.out;omega
     have hst := hid (zmE HDC.out.1 HWZ.out HL.out hlt HV.out (y := yy) (by rw [HY.out];simp));go_wp2_with (at_builtin;refine zrB _ rfl (.tmp 41) (.tmp 43) rfl w1.heap.size t (D.length / 4 + 1) zs r yy (hr.alloc _) HL.out hrp (by have := HR.out;omega) rfl ⟨wr.heap.size,0,none⟩ rfl (by simp) ?_)
     intro w5 hr5 hb5;have hb15 := hid ((hb.alloc (Nat.le_of_lt hhs) _).trans hb5);have hhs5 : w1.heap.size < w5.heap.size := by have := hb5.size;simp at this;omega
     have HL5 : Hid ((zs ++ [yy]).length = t + 1) := by unfold Hid;simp;exact HL.out
     have HR5 : Hid (r.tail.length + (t + 1) = D.length / 4 + 1) := by unfold Hid;simp;have := HR.out;omega
     clear hb5 hr hb HL HR HV HC HY;go_wp2;go_roundw
     case rel => exact ⟨t + 1,_,r.tail,.inr (by simpa using hlt),by omega,by go_num,rfl,HL5,HR5,hst.out.1,hst.out.2,hr5,hb15.out,hhs5⟩
     case measure => simp [intOf];omega
    ·obtain ⟨q,rfl⟩ : ∃ q,j = q + 1 := ⟨j - 1,by omega⟩
     have hcn := zsC HDC.out.1 (p := 4 * t + q) (n := 4 - (q + 1));have h3 := zVH ((HDC.out.1.drop (4 * t + (q + 1))).take (4 - (q + 1))) (by simp;omega);rw [← HY.out] at h3;rw [show 4 * t + q + 1 = 4 * t + (q + 1) by omega,← HY.out,show 4 - (q + 1) + 1 = 4 - q by omega] at hcn;obtain ⟨hc1,hd0,hd1⟩ := hcn;have HC1 := hid hc1;have hz : ¬ 4 * t + q < D.length → D.getD (4 * t + q) 0 = 0 := fun h => by simp [show D.length ≤ 4 * t + q by omega]
     have hcell := HC.out (4 * t + q);generalize D.getD (4 * t + q) 0 = d at *;obtain ⟨hy0,hy1⟩ := h3;clear hc1 hj0
     by_cases hin : 4 * t + q < D.length
     ·have hcl := hcell hin
      clear hcell hz;have hi1 : ((4 * t : Nat) : Int) + (q : Int) < (D.length : Int) := by omega
      go_wp2;go_round
      case rel => exact ⟨q,_,by omega,rfl,rfl,(by unfold Hid;rw [HC1.out];omega)⟩
      case measure => simp [intOf]
     ·have hz0 := hid (hz hin)
      clear hcell hz;have hi1 : ¬ ((4 * t : Nat) : Int) + (q : Int) < (D.length : Int) := by omega
      go_wp2;go_round
      case rel => exact ⟨q,_,by omega,rfl,rfl,(by unfold Hid;rw [HC1.out,hz0.out];omega)⟩
      case measure => simp [intOf]
  ·have hnlt : ¬ ((4 * t : Nat) : Int) < (D.length : Int) := by omega
   go_wp2;go_ret;have hv : val zs = dval D := by rw [HV.out,List.take_of_length_le (by omega)]
   refine ⟨zs,_,rfl,⟨HWZ.out,.inr ⟨w1.heap.size,r,Nat.le_refl _,?_,?_,hr⟩⟩,zUF HDC.out HWZ.out HL.out (by omega) HT4.out hv,by rw [hv,HDV.out],hb⟩
   ·have h1 := HL.out;have h2 := HR.out;omega
   ·have h1 := HL.out
    have h2 := HR.out
    show Value.slice _ t (D.length / 4 + 1) = _
    rw [h1,show t + r.length = D.length / 4 + 1 by omega]
def zOB (w : World) (B : Nat) (l : List UInt8) (e : Ending) (w' : World) : Prop :=
 ((l ≠ [] ∧ Good B l) ∧ ∃ zs a c,e = .returned (.tuple #[.slice a zs.length c,.int .i64 0]) ∧ Sl w'.heap.size w' (.slice a zs.length c) zs ∧ zHA zs ∧ vn zs = ofD B (dsL l) ∧ Below w.heap.size w w') ∨
 (¬ (l ≠ [] ∧ Good B l) ∧ e = .returned (.tuple #[.slice none 0 0,.int .i64 7]) ∧ Below w.heap.size w w')
theorem rread_bad {w : World} {b : Int} (h0 : -9223372036854775808 ≤ b) (h1 : b ≤ 9223372036854775807) (hb : ¬ (2 ≤ b ∧ b ≤ 36)) (s : ByteArray) : Calls Tryz.prog 132 #[.string s,.int .i64 b] w fun e w' => e = .returned (.tuple #[.slice none 0 0,.int .i64 3]) ∧ w' = w := by
 by_cases h : b < 2
 ·clear hb
  go_enter Tryz.func132,Tryz.ntmps132;go_wp2;go_ret2;exact ⟨rfl,rfl⟩
 ·have h2 : 36 < b := by omega
  clear hb;go_enter Tryz.func132,Tryz.ntmps132;go_wp2;go_ret2;exact ⟨rfl,rfl⟩
def RdH (w : World) (B : Nat) (l : List UInt8) (n gk : Nat) (s6 s7 : Value) (wx : World) : Prop :=
 ∃ (k : Nat) (a : Option Addr) (m cap : Nat) (ds : List Int),gk = n - k ∧ s6 = .slice a m cap ∧ s7 = .int .i64 (k : Int) ∧ k ≤ n ∧ Itr w.heap.size wx (.slice a m cap) ds ∧ ds.length = m ∧ m ≤ k ∧ DF ds ∧ dval ds = ((ofD B ((dsL l).take k) : Nat) : Int) ∧ (∀ j (h : j < l.length),j < k → dv l[j].toNat < B) ∧ Below w.heap.size w wx
theorem ofD_take {B : Nat} {l : List UInt8} {k : Nat} (h : k < l.length) : ofD B ((dsL l).take (k + 1)) = ofD B ((dsL l).take k) * B + dv l[k].toNat := by
 have hl : k < (dsL l).length := by simp [dsL];exact h
 have e : (dsL l)[k] = dv l[k].toNat := by simp [dsL]
 rw [List.take_succ_eq_append_getElem hl,zSD,e]
theorem rread_any {w : World} {B : Nat} {l : List UInt8} (hB : 2 ≤ B) (hB2 : B ≤ 36) (hl : l.length ≤ 100000000) :
  Calls Tryz.prog 132 #[.string ⟨l.toArray⟩,.int .i64 (B : Int)] w (zOB w B l) := by
 have b1 : ¬ (B : Int) < 2 := by omega
 have b2 : ¬ (36 : Int) < (B : Int) := by omega
 by_cases hl0 : l = []
 ·subst hl0
  go_enter Tryz.func132,Tryz.ntmps132;go_wp2;go_ret2;exact .inr ⟨fun q => q.1 rfl,rfl,Below.refl _ _⟩
 ·obtain ⟨s,hs⟩ : ∃ s,s = (⟨l.toArray⟩ : ByteArray) := ⟨_,rfl⟩
  obtain ⟨n,hn⟩ : ∃ n,l.length = n := ⟨_,rfl⟩
  have hsz : s.size = n := by rw [hs,zqA,hn]
  have HBT : Hid (∀ i (h : i < l.length) (h' : i < s.size),s[i]'h' = l[i]) := by unfold Hid;subst hs;intro i h h';rfl
  have hem : s.toList.isEmpty = false := by
   have e : s.toList = l := by rw [hs,Lib.toList_data]
   rw [e];simpa using hl0
  have HNE := hid hl0;have HN := hid hn;rw [hn] at hl;rw [← hs];clear hs hn hl0;have H0 : Hid (RdH w B l n n (.slice none 0 0) (.int .i64 0) w) := ⟨0,none,0,0,[],by omega,rfl,rfl,Nat.zero_le _,Itr.nil _ _,rfl,Nat.le_refl _,DF.nil,by simp [ofD,dval],fun j _ h => absurd h (Nat.not_lt_zero _),Below.refl _ _⟩
  go_enter Tryz.func132,Tryz.ntmps132;go_wp2_with fail
  go_loopg [6,7] n (fun gk s6 s7 wx => RdH w B l n gk s6 s7 wx)
  case atStart => exact H0.out
  case round =>
   clear H0;obtain ⟨k,a,m,cap,ds,hgk,rfl,rfl,hk,hit,hml,hmk,hdf,hdv,hgd,hbl⟩ := hrel;have HG := hid hgk;have HIT := hid hit;have HML := hid hml;have HDF := hid hdf;have HDV := hid hdv;have HGD := hid hgd;have HBL := hid hbl;clear hgk hit hml hdf hdv hgd hbl
   by_cases hlt : k < n
   ·have hlt' : (k : Int) < (n : Int) := by omega
    have hks : k < s.size := by omega
    have hkl : k < l.length := by rw [HN.out];exact hlt
    have hw3 : IntKind.i64.wrap ((k : Int) + 1) = ((k + 1 : Nat) : Int) := by rw [zYA] <;> omega
    have HCH : Hid (s[k]'hks = l[k]) := HBT.out k hkl hks;obtain ⟨c,hc⟩ : ∃ c,l[k] = c := ⟨_,rfl⟩
    have HC := hid hc;rw [hc] at HCH;have HOT := hid (ofD_take (B := B) hkl);rw [hc] at HOT;have HVA : Hid (Calls Tryz.prog 154 #[.int .u8 ((s[k]'hks).toNat : Int)] wr fun e w' => e = .returned (.int .i64 (dv c.toNat : Int)) ∧ w' = wr) := by
     unfold Hid;rw [HCH.out];exact value_any c.toNat_lt wr
    clear hc HCH;obtain ⟨v,hv⟩ : ∃ v,dv c.toNat = v := ⟨_,rfl⟩
    rw [hv] at HVA HOT;have HV := hid hv;clear hv;go_wp2_with fail;refine HVA.out.mono ?_;rintro e w2 ⟨rfl,q⟩;rw [q];clear q HVA
    by_cases hvb : v < B
    ·have hvb' : ¬ (B : Int) ≤ (v : Int) := by omega
     have HON := hid (onto_any (v0 := (v : Int)) HIT.out HML.out HDF.out hB hB2 (by omega) (by omega) (by omega) HBL.out.size);have HNX : Hid (∀ e w',zYH wr w.heap.size ds B (v : Int) e w' → ∃ a' m' cap',e = .returned (.slice a' m' cap') ∧ RdH w B l n (n - (k + 1)) (.slice a' m' cap') (.int .i64 ((k + 1 : Nat) : Int)) w') := fun e w' h => by
      obtain ⟨a',m',cap',ds',h1,h2,h3,h4,h5,h6,h7⟩ := h;refine ⟨a',m',cap',h1,k + 1,a',m',cap',ds',rfl,rfl,rfl,by omega,h2,h3,by have := HML.out;omega,h4,?_,fun j hj hjk => ?_,HBL.out.trans h7⟩
      ·rw [h5,HDV.out,HOT.out]
       push_cast
       rw [Int.mul_comm]
      ·by_cases e : j = k
       ·subst e
        rw [HC.out,HV.out];exact hvb
       ·exact HGD.out j hj (by omega)
     have HMM : Hid (n - (k + 1) < gk) := by unfold Hid;rw [HG.out];omega
     clear HIT HML HDF HDV HGD HBL HOT HC HV HG hvb;go_wp2_with fail;refine HON.out.mono ?_;intro e w4 h4;obtain ⟨a',m',cap',rfl,hn4⟩ := HNX.out e w4 h4;have HN4 := hid hn4;clear h4 hn4 HNX HON;go_wp2_with fail;go_roundg (n - (k + 1))
     case rel => exact HN4.out
     case measure => exact HMM.out
    ·have hvb' : (B : Int) ≤ (v : Int) := by omega
     have HNG : Hid (¬ (l ≠ [] ∧ Good B l)) := fun q => by
      have := q.2 l[k] (List.getElem_mem hkl);rw [HC.out,HV.out] at this;exact hvb this
     clear HIT HML HDF HDV HGD HOT HC HV HG hvb;go_wp2;go_ret2;exact .inr ⟨HNG.out,rfl,HBL.out⟩
   ·have hlt' : ¬ (k : Int) < (n : Int) := by omega
    obtain rfl : k = n := by omega
    have HGO : Hid (Good B l) := fun b hb => by
     obtain ⟨j,hj,rfl⟩ := List.getElem_of_mem hb;exact HGD.out j hj (by rw [HN.out] at hj;exact hj)
    have hdl : (dsL l).take k = dsL l := List.take_of_length_le (by rw [show (dsL l).length = l.length by simp [dsL],HN.out];exact Nat.le_refl _);rw [hdl] at HDV;have HSL : Hid (SlJ wr.heap.size wr (.slice a m cap) ds) := by
     refine ⟨fun p hp => by have := HDF.out p hp;unfold IsD dwB at this;omega,by have := HML.out;omega,?_⟩
     by_cases hm0 : 0 < ds.length
     ·obtain ⟨g,cap',rest,he,hg,hgl,hrow,hcp,hcm⟩ := HIT.out.row hm0
      exact ⟨_,cap',he,by omega,.inr ⟨g,0,rfl,hgl,fun j hj => by rw [Nat.zero_add];exact hrow.num hj⟩⟩
     ·have hd0 : ds = [] := List.eq_nil_of_length_eq_zero (by omega)
      exact ⟨a,cap,by rw [HML.out],by omega,.inl hd0⟩
    have HJ := hid (join_j HSL.out HDF.out);have HVN : Hid (∀ zs : List Int,WF zs → val zs = dval ds → vn zs = ofD B (dsL l)) := fun zs hz hv => by
     have e := zJA hz;rw [hv,HDV.out] at e
     exact_mod_cast e.symm
    clear HSL HIT HML HDV HGD HG hdl;go_wp2_with fail;refine HJ.out.mono ?_;rintro e w3 ⟨zs,r,rfl,ho,hcn,hvl,hb3⟩;have FIN : Hid (∃ a' c',r = .slice a' zs.length c' ∧ Sl w3.heap.size w3 (.slice a' zs.length c') zs) := by
     have q := ho.sl;obtain ⟨h1,a',c',e',h2⟩ := id q;exact ⟨a',c',e',by rw [← e'];exact q⟩
    obtain ⟨a',c',hr,hsl⟩ := FIN.out;rw [hr];have HS := hid hsl;have HCN := hid hcn;have HVL := hid (HVN.out zs hcn.1 hvl);have HB3 := hid (below_step HBL.out hb3);clear FIN hr hsl hcn hvl hb3 ho HJ HVN HBL HDF;go_wp2;go_ret2;exact .inl ⟨⟨HNE.out,HGO.out⟩,zs,a',c',rfl,HS.out,HCN.out,HVL.out,HB3.out⟩
theorem zpA {w : World} {l : List UInt8} (hl : l.length ≤ 100000000) :
  Calls Tryz.prog 106 #[.string ⟨l.toArray⟩] w (zOB w 10 l) := by
 have HR := hid (rread_any (w := w) (B := 10) (by omega) (by omega) hl);clear hl;obtain ⟨s,hs⟩ : ∃ s,s = (⟨l.toArray⟩ : ByteArray) := ⟨_,rfl⟩
 rw [← hs] at HR ⊢;clear hs;go_enter Tryz.func106,Tryz.ntmps106;go_wp2_with fail;refine HR.out.mono ?_;rintro e w1 h;clear HR;rcases h with ⟨g,zs,a,c,rfl,h2⟩ | ⟨g,rfl,h2⟩
 ·replace g := hid g
  replace h2 := hid h2;go_wp2;go_ret2;exact .inl ⟨g.out,zs,a,c,rfl,h2.out⟩
 ·replace g := hid g
  replace h2 := hid h2;go_wp2;go_ret2;exact .inr ⟨g.out,rfl,h2.out⟩
end Go.Proofs.YtkdobgbicnemcaaGreatDoor
