/-
 QDivideToShl: Divide, Moved, Shl, joined.
-/
import Derived.Test.YtppddlbkdoebmaaQHLongToLong3
import Derived.Deep.LoopGhost
import Derived.Test.YtppddlbkdoebmaaQHWordsToMade
import Derived.Test.YtppddlbkdoebmaaQSplitToJoin

set_option maxRecDepth 100000
set_option maxHeartbeats 6400000
set_option linter.unusedVariables false
set_option linter.unusedSimpArgs false
namespace Go.Proofs.Ytppddlbkdoebmaa
open Go.RowKit
theorem zeF {w : World} {g : Nat} {zs : List Int} {r : List Value} (h : Row w g (ws zs ++ r)) (hw : WF zs) {j n cap : Nat} (hl : j + n ≤ zs.length) (hn : n ≤ 35184372088832) (hc : n ≤ cap) {B : Nat} (hB : g < B) :
  Sl B w (.slice (some ⟨g,j,none⟩) n cap) ((zs.drop j).take n) := by
 have e : ((zs.drop j).take n).length = n := by rw [List.length_take,List.length_drop];omega
 refine ⟨(hw.dropped j).take n,some ⟨g,j,none⟩,cap,by rw [e],by rw [e];exact hc,by rw [e];exact hn,.inr ⟨g,j,rfl,hB,fun i hi => ?_⟩⟩;rw [e] at hi;rw [h.word (i := j + i) (by omega)]
 simp
def Divided (g m : Nat) (r : List Value) (zs0 bs : List Int) (w : World) (e : Ending) (w' : World) : Prop :=
 ∃ qs zs,e = .returned (.slice (some ⟨w.heap.size,0,none⟩) m m) ∧ qs.length = m ∧ WF qs ∧ zs.length = zs0.length ∧ WF zs ∧ val zs0 = val qs * val bs + val zs ∧ val zs < val bs ∧ Row w' g (ws zs ++ r) ∧ Row w' w.heap.size (ws qs) ∧ Below g w w'
theorem divide_any {g m n cap : Nat} {w : World} {u : Value} {zs0 bs : List Int} {r : List Value} (hz0 : WF zs0) (hrow : Row w g (ws zs0 ++ r)) (hlz : zs0.length = m + n) (hmx : m + n ≤ 35184372088832) (hcap : m + n ≤ cap) (hcm : cap ≤ 9223372036854775807) (hb : Sl g w u bs) (hn : bs.length = n) (hn1 : 1 ≤ n)
  (hv : val (zs0.drop m) < val bs) :
  Calls Try.prog 54 #[.slice (some ⟨g,0,none⟩) (m + n) cap,u] w (Divided g m r zs0 bs w) := by
 have hwb := hb.1;have HS := hid hb;have HST := hid (zOB.start hz0 (by omega) hv);have hgl := hrow.lt;obtain ⟨_,a,capb,rfl,hlc,hcmb,hm⟩ := hb;rw [hn] at hlc HS hcmb;rw [hn];have HN := hid hn;have HLZ := hid hlz;have HWB := hid hwb;clear hm hn hlz hz0 hwb hv;go_enter Try.func54,Try.ntmps54;go_wp2_with fail;go_step3;go_wp2_with (at_make;refine wpList_make_words _ rfl _ _ rfl _ _ m m rfl rfl rfl rfl (Nat.le_refl _) (by omega) ?_)
 intro w2 hrow2 hb2 hsz2;have hsz : w2.heap.size = w.heap.size + 1 := hsz2.out;have hrg : Row w2 g (ws zs0 ++ r) := hrow.below hb2 hgl;have hb2g : Below g w w2 := hb2.mono (Nat.le_of_lt hgl);have HB2 := hid hb2g;have HR2 := hid hrg;have HQ2 := hid hrow2;clear hrow hb2 hsz2 hrg hb2g hrow2;go_wp2_with fail;go_step3;go_wp2_with fail
 go_loopg [6] m (fun k s6 wx => ∃ qs zs : List Int,s6 = .int .i64 ((k : Int) - 1) ∧ k ≤ m ∧ Hid (zOB zs0 bs qs zs k) ∧ Hid (Row wx g (ws zs ++ r)) ∧ Hid (Row wx w.heap.size (ws qs)) ∧ Hid (Below g w wx) ∧ wx.heap.size = w.heap.size + 1)
 case atStart => exact ⟨_,zs0,rfl,Nat.le_refl _,HST,HR2,HQ2,HB2,hsz⟩
 case round =>
  clear HST HR2 HQ2 HB2 hsz;obtain ⟨qs,zs,rfl,hkm,HL,HR,HQ,HB,hsz⟩ := hrel;have hql : qs.length = m := by
   have h1 := HL.out.2.2.1;have := HLZ.out;have := HN.out;omega
  cases gk with
  | zero =>
   go_wp2
   try rw [Exit.noGoto_ret]
   go_ret;obtain ⟨h1,h2,h3,h4,h5,h6,h7⟩ := HL.out;exact ⟨qs,zs,rfl,hql,h4,h1,h2,h6,by simpa using h7,HR.out,HQ.out,HB.out⟩
  | succ j =>
   have hjm : j < qs.length := by omega
   have hzl : zs.length = m + n := HL.out.1.trans HLZ.out;have hwz := HL.out.2.1;have hgx : g < wr.heap.size := by omega
   have hsl := zeF HR.out hwz (j := j) (n := n + 1) (cap := cap - j) (by omega) (by omega) (by omega) hgx;obtain ⟨N,hN⟩ : ∃ N,n = N + 1 := ⟨n - 1,by omega⟩
   have HSB := hid (HS.out.below HB.out (Nat.le_refl _));have hps : ((zs.drop j).take (n + 1)).length = N + 2 := by rw [List.length_take,List.length_drop];omega
   have hpart := HL.out.part HWB.out hjm;rw [HN.out] at hpart;have HGU := hid (guess_any hsl (HSB.out.mono (Nat.le_of_lt hgx)) hps (by rw [HN.out,hN]) (by rw [hpart];exact HL.out.small hjm));rw [hpart] at HGU;have ej : ((j + 1 : Nat) : Int) - 1 = (j : Int) := by omega
   have i0 : (0 : Int) ≤ (j : Int) := by omega
   have el : j + n + 1 - j = n + 1 := by omega
   clear hsl hps hpart hN;go_wp2_with fail
   try rw [el]
   refine HGU.out.mono ?_;rintro e w3 ⟨⟨D,rfl,hD,hlt⟩,nd,rfl⟩;have HT := hid (takeTimes_any (cap := cap - j) (o := j) hwz (HR.out.drewN nd) (by omega) (HSB.out.drewN nd) hD (by rw [HN.out];omega));rw [HN.out] at HT;have HLT := hid hlt;clear HGU hlt;go_wp2_with fail
   try rw [el]
   refine HT.out.mono ?_;rintro e w4 ⟨zs1,c,rfl,hl1,hw1,hc0,hc1,hv1,hd1,hr1,hb1,ho1⟩;obtain ⟨d,rfl⟩ := Int.eq_ofNat_of_zero_le hD.1;have HD : Hid (zaB zs bs zs1 j (d : Int) c) := ⟨hl1,hw1,by rw [HN.out];exact hv1,by rw [HN.out];exact hd1,HLT.out,hD⟩
   have HR1 := hid hr1;have HB1 := hid ((below_drewN HB.out nd).trans hb1);have HO1 := hid ((((Only.refl g wr).drew nd).trans ho1));have HQ1 := hid (HO1.out.row (by omega) HQ.out);have hs1 : w4.heap.size = w.heap.size + 1 := HO1.out.1.trans hsz;clear HT HLT hl1 hw1 hv1 hd1 hr1 hb1 ho1 hD HR HQ HB HO1;go_wp2_with fail
   go_loopg [8,9] d (fun k s8 s9 wx => ∃ (zs1 : List Int) (c : Int),s8 = .int .u64 (k : Int) ∧ s9 = .int .u64 c ∧ 0 ≤ c ∧ c ≤ 1 ∧ Hid (zaB zs bs zs1 j (k : Int) c) ∧ Hid (Row wx g (ws zs1 ++ r)) ∧ Hid (Row wx w.heap.size (ws qs)) ∧ Hid (Below g w wx) ∧ wx.heap.size = w.heap.size + 1)
   case atStart => exact ⟨zs1,c,rfl,rfl,hc0,hc1,HD,HR1,HQ1,HB1,hs1⟩
   case round =>
    clear HD HR1 HQ1 HB1 hs1 hc0 hc1;obtain ⟨zs1,c,rfl,rfl,hc0,hc1,HD,HR1,HQ1,HB1,hs1⟩ := hrel
    by_cases hc : c = 0
    ·subst hc
     have hz : ((0 : Int) == 0) = true := rfl;have HLN := hid (HL.out.next HWB.out hjm HD.out);have c1 : wr.cell? ⟨w.heap.size,j,none⟩ = some (.int .u64 qs[j]) := Row.word (r := []) (by simpa using HQ1.out) hjm;have cf : wr.frozen? ⟨w.heap.size,j,none⟩ = false := HQ1.out.frozen j;have HQ2 : Hid (Row (wr.setCell ⟨w.heap.size,j,none⟩ (.int .u64 (gk : Int))) w.heap.size (ws (qs.set j (gk : Int)))) := by
      have := Row.setWord (r := []) (by simpa using HQ1.out) hjm (gk : Int);unfold Hid;simpa using this
     have HO2 := (Only.refl w.heap.size wr).set j (.int .u64 (gk : Int));have HR2 := hid (HO2.row (by omega) HR1.out);have HB2 := hid (HB1.out.setCell (p := ⟨w.heap.size,j,none⟩) (Nat.le_of_lt hgl) (.int .u64 (gk : Int)));have hs2 := HO2.1.trans hs1;have i2 : (j : Int) < (m : Int) := by omega
     generalize qs[j] = q0 at *;clear HO2 HQ1 HR1 HB1 HD HL;go_wp2_with fail;go_roundg j
     case rel => exact ⟨_,zs1,by go_num,by omega,HLN,HR2,HQ2,HB2,hs2⟩
     case measure => omega
    ·have hc : c = 1 := by omega
     subst hc;have hz : ((1 : Int) == 0) = false := rfl;obtain ⟨_,hd1⟩ := HD.out.over HL.out HWB.out hjm;obtain ⟨d',rfl⟩ : ∃ d',gk = d' + 1 := ⟨gk - 1,by omega⟩
     have hdw := HD.out.2.2.2.2.2;unfold IsW wB at hdw;obtain ⟨_,hdw1⟩ := hdw;have ed : ((d' + 1 : Nat) : Int) - 1 = (d' : Int) := by omega
     have hl1 : zs1.length = m + n := HD.out.1.trans hzl;have HT := hid (divAddTo_any (cap := cap - j) (o := j) HD.out.2.1 HR1.out (by omega) (HS.out.below HB1.out (Nat.le_refl _)) (by rw [HN.out];omega));rw [HN.out] at HT;go_wp2_with fail;refine HT.out.mono ?_;rintro e w5 ⟨zs2,c2,rfl,hl2,hw2,hc20,hc21,hv2,hd2,hr2,hb2,ho2⟩;have HD2 : Hid (zaB zs bs zs2 j (d' : Int) (1 - c2)) := by
      have := HD.out.step HL.out HWB.out hjm hl2 hw2 (by rw [HN.out];exact hv2) (by rw [HN.out];exact hd2);rw [ed] at this;exact this
     have HR2 := hid hr2;have HB2 := hid (HB1.out.trans hb2);have HQ2 := hid (ho2.row (by omega) HQ1.out);have hs2 := ho2.1.trans hs1;clear HT hl2 hw2 hv2 hd2 hr2 hb2 ho2 HD HR1 HQ1 HB1;go_wp2_with fail;go_roundg d'
     case rel => exact ⟨zs2,1 - c2,by go_num,by go_num,by omega,by omega,HD2,HR2,HQ2,HB2,hs2⟩
     case measure => omega
def zRG (w : World) (s : Nat) (k : Nat) (e : Ending) (w' : World) : Prop :=
 ∃ zs v,e = .returned (.tuple #[v,.int .i64 0]) ∧ Own w.heap.size w' v zs ∧ zFA zs ∧ vn zs = s ∧ zs.length ≤ k ∧ Below w.heap.size w w'
theorem zyE {w w' : World} {zs : List Int} {s k n : Nat} (hw : WF zs) (hn : zs.length = n) (hm : n ≤ 35184372088832) (hr : Row w' w.heap.size (ws zs)) (hv : vn zs = s) (hk : n ≤ k) (hb : Below w.heap.size w w') :
  zRG w s k (.returned (.tuple #[.slice (some ⟨w.heap.size,0,none⟩) (wid zs) n,.int .i64 0])) w' := by
 have hl := zIA zs;refine ⟨lst zs,_,rfl,⟨(canon_lst hw).1,.inr ⟨w.heap.size,ws (zs.drop (wid zs)),Nat.le_refl _,?_,?_,?_⟩⟩,canon_lst hw,?_,?_,hb⟩
 ·rw [length_lst,zGA];simp;omega
 ·rw [length_lst,zGA];congr 1;simp;omega
 ·have e : ws (lst zs) ++ ws (zs.drop (wid zs)) = ws zs := by
   unfold lst ws;rw [← List.map_append,List.take_append_drop]
  rw [e];exact hr
 ·rw [zlE hw];exact hv
 ·rw [length_lst];omega
theorem moved_nil {w w' : World} {s k : Nat} (hs : s = 0) (hb : Below w.heap.size w w') : zRG w s k (.returned (.tuple #[.slice none 0 0,.int .i64 0])) w' :=
 ⟨[],_,rfl,⟨WF.nil,.inl ⟨rfl,rfl⟩⟩,⟨WF.nil,rfl⟩,hs.symm,Nat.zero_le _,hb⟩
theorem shl_end {zs L xs : List Int} {n m : Nat} {cc : Int} {I : Nat} (hz : WF zs) (hL : val L = val xs) (hwx : WF xs) (hI : I < zs.length) (hzero : zs[I] = 0) (hc : IsW cc) (hv : val zs + pw I * cc = 2 ^ n * val (L.take m)) (hm : L.length = m) :
  WF (zs.set I cc) ∧ vn (zs.set I cc) = vn xs * 2 ^ n := by
 have hw := hz.set I hc;refine ⟨hw,?_⟩;have h1 := zIB zs I cc hI;rw [hzero,Int.sub_zero,Int.mul_comm] at h1;rw [← hm,List.take_length,hL] at hv;have h2 := zNA hw;have h3 := zNA hwx;have h4 : ((vn (zs.set I cc) : Nat) : Int) = ((vn xs * 2 ^ n : Nat) : Int) := by
  rw [← h2,h1,hv,h3,Int.natCast_mul,Int.mul_comm];simp
 omega
theorem mul4 (a b c d : Int) : a * b * (c * d) = c * b * (a * d) := by simp only [Int.mul_comm,Int.mul_left_comm]
theorem shl_pos {w : World} {v : Value} {xs : List Int} (h : Sl w.heap.size w v xs) {n : Nat} (hn : n ≤ 1048576) (hlen : xs.length ≤ 35184371000000) (hpos : wid xs ≠ 0) :
  Calls Try.prog 53 #[v,.int .i64 (n : Int)] w (zRG w (vn xs * 2 ^ n) (xs.length + 16385)) := by
 have hs := h;obtain ⟨hw,a,cap,rfl,hlc,hcm,hm⟩ := h;have HW1 := zeA hs;have l1 := zIA xs;have hsrc := Sl.source (n := wid xs) hm
 change lst xs = [] ∨ ∃ b off,a = some ⟨b,off,none⟩ ∧ b < w.heap.size ∧ ∀ j (h : j < (lst xs).length),w.cell? ⟨b,off + j,none⟩ = some (.int .u64 (lst xs)[j]) at hsrc
 have HSRC := hid hsrc;have HL : Hid ((lst xs).length = wid xs) := length_lst xs;have HWL := hid (canon_lst hw).1;have HVL := hid (val_lst xs);have HWX := hid hw;generalize lst xs = L at *;generalize wid xs = m at *;have hm0 : ((m : Int) == 0) = false := by rw [beq_eq_false_iff_ne];omega
 have HV0 : Hid (val (List.replicate (n / 64 + m + 1) 0) + pw (n / 64 + 0) * 0 = 2 ^ n * val (L.take 0)) := by
  unfold Hid;have : WF (List.replicate (n / 64 + m + 1) 0) := fun x hx => by rw [List.eq_of_mem_replicate hx];unfold IsW wB;omega
  rw [zNA this,zZF (fun x hx => List.eq_of_mem_replicate hx)];simp [val]
 have HW0 : Hid (WF (List.replicate (n / 64 + m + 1) 0)) := fun x hx => by rw [List.eq_of_mem_replicate hx];unfold IsW wB;omega
 have hp64 : n % 64 < 64 := Nat.mod_lt _ (by omega);clear hm hsrc hs hw;go_enter Try.func53,Try.ntmps53;go_wp2_with fail;refine HW1.mono ?_;rintro e w1 ⟨rfl,rfl⟩;clear HW1;go_wp2_with (at_make;refine wpList_make_words _ rfl _ _ rfl _ _ (n / 64 + m + 1) (n / 64 + m + 1) rfl rfl (by omega) (by omega) (Nat.le_refl _) (by omega) ?_)
 intro w2 hrow hb2 hsz2;go_wp2_with fail
 go_loopw [10,30] (fun c i wr => ∃ (k : Nat) (zs : List Int) (cc : Int),k ≤ m ∧ i = .int .i64 k ∧ c = .int .u64 cc ∧ 0 ≤ cc ∧ Hid (cc < 2 ^ (n % 64)) ∧ Hid (zs.length = n / 64 + m + 1) ∧ WF zs ∧ Hid (∀ j (h : j < zs.length),n / 64 + k ≤ j → zs[j] = 0) ∧
   Hid (val zs + pw (n / 64 + k) * cc = 2 ^ n * val (L.take k)) ∧ Row wr w1.heap.size (ws zs) ∧ Below w1.heap.size w1 wr) (fun _ i _ => m - (intOf i).toNat)
 case atStart => exact ⟨0,_,0,Nat.zero_le _,rfl,rfl,by omega,(Int.pow_pos (by omega) : (0 : Int) < 2 ^ (n % 64)),(by unfold Hid;simp),HW0.out,(fun j h _ => by simp),HV0,hrow,hb2⟩
 case round =>
  clear HV0 HW0 hrow hb2 hsz2;obtain ⟨k,zs,cc,hk,rfl,rfl,hc0,hc1,HL2,hwz,HZ,HV,hr,hb⟩ := hrel
  by_cases hlt : k < m
  ·have hk1 : n / 64 + k < zs.length := by have := HL2.out;omega
   have hk2 : k < L.length := by have := HL.out;omega
   rcases HSRC.out with e | ⟨b,off,rfl,hbg,hcy⟩
   ·subst e;simp at hk2
   have c2 : wr.cell? ⟨b,off + k,none⟩ = some (.int .u64 L[k]) := (hb.cell (p := ⟨b,off + k,none⟩) hbg).trans (hcy k hk2);have c1 : wr.cell? ⟨w1.heap.size,n / 64 + k,none⟩ = some (.int .u64 zs[n / 64 + k]) := Row.word (r := []) (by simpa using hr) hk1;have cf : wr.frozen? ⟨w1.heap.size,n / 64 + k,none⟩ = false := hr.frozen _;have hxw := HWL.out.get hk2;obtain ⟨hs1,hd0,hd1,hsum⟩ := shl_word hxw hp64 hc0 hc1.out;have hz0 : zs[n / 64 + k] = 0 := HZ.out _ hk1 (Nat.le_refl _);have HT : Hid (2 ^ n * val (L.take (k + 1)) = 2 ^ n * val (L.take k) + L[k] * 2 ^ (n % 64) * pw (n / 64 + k)) := by
    unfold Hid;rw [zOA L k hk2,Int.mul_add,two_split n,zDD]
    congr 1
    exact mul4 _ _ _ _
   have HV' := hid (zxC (xs := []) hk1 (by rw [HV.out];simp [val]) HT.out (by rw [hz0];exact hsum) (show pw (n / 64 + (k + 1)) = pw (n / 64 + k + 1) from rfl));have hwz' := hwz.set (n / 64 + k) hs1;have HR := Row.setWord (r := []) (by simpa using hr) hk1 (bits BinOp.or IntKind.u64 (IntKind.u64.wrap (L[k] * 2 ^ (n % 64))) cc);have HB := hb.setCell (p := ⟨w1.heap.size,n / 64 + k,none⟩) (Nat.le_refl _) (.int .u64 (bits BinOp.or IntKind.u64 (IntKind.u64.wrap (L[k] * 2 ^ (n % 64))) cc));have HZ' : Hid (∀ z,∀ j (h : j < (zs.set (n / 64 + k) z).length),n / 64 + (k + 1) ≤ j → (zs.set (n / 64 + k) z)[j] = 0) := fun z j h hj => by
    rw [List.getElem_set_ne (by omega)];exact HZ.out j (by simpa using h) (by omega)
   have HL3 : Hid (∀ z,(zs.set (n / 64 + k) z).length = n / 64 + m + 1) := fun z => by rw [List.length_set];exact HL2.out
   have hd1' := hid hd1;unfold IsW wB at hxw;obtain ⟨hx0,hx1⟩ := hxw;clear hd1 hs1 hsum HT hcy HV hwz hr hb HZ HL2 hc1;generalize L[k] = x at *;generalize zs[n / 64 + k] = z at *;go_wp2;go_roundw
   case rel => exact ⟨k + 1,_,_,by omega,by go_num,rfl,hd0,hd1',HL3.out _,hwz',HZ'.out _,(by unfold Hid;simpa [val] using HV'.out),(by simpa using HR),HB⟩
   case measure => simp [intOf];omega
  ·obtain rfl : k = m := by omega
   have hk1 : n / 64 + k < zs.length := by have := HL2.out;omega
   have hz0 : zs[n / 64 + k] = 0 := HZ.out _ hk1 (Nat.le_refl _);have c1 : wr.cell? ⟨w1.heap.size,n / 64 + k,none⟩ = some (.int .u64 zs[n / 64 + k]) := Row.word (r := []) (by simpa using hr) hk1;have cf : wr.frozen? ⟨w1.heap.size,n / 64 + k,none⟩ = false := hr.frozen _;have hcw : IsW cc := by
    have h1 := hc1.out;have h2 : (2 : Int) ^ (n % 64) ≤ 2 ^ 64 := by
     have := Nat.pow_le_pow_right (n := 2) (by omega) (Nat.le_of_lt hp64);rw [zWA,zWA];omega
    unfold IsW wB;have h3 : (2 : Int) ^ 64 = 18446744073709551616 := by decide
    omega
   have HE := hid (shl_end hwz HVL.out HWX.out hk1 hz0 hcw HV.out HL.out);have HR := Row.setWord (r := []) (by simpa using hr) hk1 cc;have HB := hb.setCell (p := ⟨w1.heap.size,n / 64 + k,none⟩) (Nat.le_refl _) (.int .u64 cc);have HLE : Hid ((zs.set (n / 64 + k) cc).length = n / 64 + k + 1) := by unfold Hid;rw [List.length_set];exact HL2.out
   generalize zs.set (n / 64 + k) cc = Z at *;generalize zs[n / 64 + k] = z at *;clear hr hb HV HZ hwz HL2 hc1 hcw hz0;go_wp2_with fail;have hR : Row (wr.setCell ⟨w1.heap.size,n / 64 + k,none⟩ (.int .u64 cc)) w1.heap.size (ws Z) := by simpa using HR
   have hsz := Row.sl (r := []) (by simpa using hR) HE.out.1 (cap := n / 64 + k + 1) (by rw [HLE.out];exact Nat.le_refl _) (by omega) hR.lt;rw [HLE.out] at hsz;have HW4 := hid (zeA hsz);clear hsz;refine HW4.out.mono ?_;rintro e w5 ⟨rfl,rfl⟩;clear HW4;have l5 := zIA Z;have l6 : wid Z ≤ n / 64 + k + 1 := by have := HLE.out;omega
   go_wp2;go_ret2;exact zyE HE.out.1 HLE.out (by omega) hR HE.out.2 (by omega) HB
theorem zFG {w : World} {v : Value} {xs : List Int} (h : Sl w.heap.size w v xs) {n : Nat} (hn : n ≤ 1048576) (hlen : xs.length ≤ 35184371000000) :
  Calls Try.prog 53 #[v,.int .i64 (n : Int)] w (zRG w (vn xs * 2 ^ n) (xs.length + 16385)) := by
 by_cases hp : wid xs = 0
 ·have HW1 := zeA h
  rw [hp] at HW1;have HZ := hid (zYC h.1 hp);have hm0 : ((0 : Int) == 0) = true := rfl;clear h hp;go_enter Try.func53,Try.ntmps53;go_wp2_with fail;refine HW1.mono ?_;rintro e w1 ⟨rfl,rfl⟩;clear HW1;go_wp2;go_ret2;exact moved_nil (by rw [HZ.out];simp) (Below.refl _ _)
 ·exact shl_pos h hn hlen hp
end Go.Proofs.Ytppddlbkdoebmaa
