/-
 QDivideToMoved: Divide, Moved, joined.
-/
import Derived.Test.YtlhjogiefbjklaaQGuessToLong3
import Derived.Deep.LoopGhost
import Derived.Test.YtlhjogiefbjklaaQCarryToMade
import Derived.Test.YtlhjogiefbjklaaQDWordsToJoin

set_option maxRecDepth 100000
set_option maxHeartbeats 6400000
set_option linter.unusedVariables false
set_option linter.unusedSimpArgs false
namespace Go.Proofs.Ytlhjogiefbjklaa
open Go.RowKit
theorem zYE {w : World} {g : Nat} {zs : List Int} {r : List Value} (h : Row w g (ws zs ++ r)) (hw : WF zs) {j n cap : Nat} (hl : j + n ≤ zs.length) (hn : n ≤ 35184372088832) (hc : n ≤ cap) {B : Nat} (hB : g < B) :
  Sl B w (.slice (some ⟨g,j,none⟩) n cap) ((zs.drop j).take n) := by
 have e : ((zs.drop j).take n).length = n := by rw [List.length_take,List.length_drop];omega
 refine ⟨(hw.dropped j).take n,some ⟨g,j,none⟩,cap,by rw [e],by rw [e];exact hc,by rw [e];exact hn,.inr ⟨g,j,rfl,hB,fun i hi => ?_⟩⟩;rw [e] at hi;rw [h.word (i := j + i) (by omega)]
 simp
def Divided (g m : Nat) (r : List Value) (zs0 bs : List Int) (w : World) (e : Ending) (w' : World) : Prop :=
 ∃ qs zs,e = .returned (.slice (some ⟨w.heap.size,0,none⟩) m m) ∧ qs.length = m ∧ WF qs ∧ zs.length = zs0.length ∧ WF zs ∧ val zs0 = val qs * val bs + val zs ∧ val zs < val bs ∧ Row w' g (ws zs ++ r) ∧ Row w' w.heap.size (ws qs) ∧ Below g w w'
theorem divide_any {g m n cap : Nat} {w : World} {u : Value} {zs0 bs : List Int} {r : List Value} (hz0 : WF zs0) (hrow : Row w g (ws zs0 ++ r)) (hlz : zs0.length = m + n) (hmx : m + n ≤ 35184372088832) (hcap : m + n ≤ cap) (hcm : cap ≤ 9223372036854775807) (hb : Sl g w u bs) (hn : bs.length = n) (hn1 : 1 ≤ n)
  (hv : val (zs0.drop m) < val bs) :
  Calls Try.prog 54 #[.slice (some ⟨g,0,none⟩) (m + n) cap,u] w (Divided g m r zs0 bs w) := by
 have hwb := hb.1;have HS := hid hb;have HST := hid (zBB.start hz0 (by omega) hv);have hgl := hrow.lt;obtain ⟨_,a,capb,rfl,hlc,hcmb,hm⟩ := hb;rw [hn] at hlc HS hcmb;rw [hn];have HN := hid hn;have HLZ := hid hlz;have HWB := hid hwb;clear hm hn hlz hz0 hwb hv;go_enter Try.func54,Try.ntmps54;go_wp2_with fail;go_step3;go_wp2_with (at_make;refine wpList_make_words _ rfl _ _ rfl _ _ m m rfl rfl rfl rfl (Nat.le_refl _) (by omega) ?_)
 intro w2 hrow2 hb2 hsz2;have hsz : w2.heap.size = w.heap.size + 1 := hsz2.out;have hrg : Row w2 g (ws zs0 ++ r) := hrow.below hb2 hgl;have hb2g : Below g w w2 := hb2.mono (Nat.le_of_lt hgl);have HB2 := hid hb2g;have HR2 := hid hrg;have HQ2 := hid hrow2;clear hrow hb2 hsz2 hrg hb2g hrow2;go_wp2_with fail;go_step3;go_wp2_with fail
 go_loopg [6] m (fun k s6 wx => ∃ qs zs : List Int,s6 = .int .i64 ((k : Int) - 1) ∧ k ≤ m ∧ Hid (zBB zs0 bs qs zs k) ∧ Hid (Row wx g (ws zs ++ r)) ∧ Hid (Row wx w.heap.size (ws qs)) ∧ Hid (Below g w wx) ∧ wx.heap.size = w.heap.size + 1)
 case atStart => exact ⟨_,zs0,rfl,Nat.le_refl _,HST,HR2,HQ2,HB2,hsz⟩
 case round =>
  clear HST HR2 HQ2 HB2 hsz;obtain ⟨qs,zs,rfl,hkm,HL,HR,HQ,HB,hsz⟩ := hrel;have hql : qs.length = m := by
   have h1 := HL.out.2.2.1;have := HLZ.out;have := HN.out;omega
  cases gk with
  | zero =>
   go_wp2
   try rw [Exit.noGoto_ret]
   go_ret;obtain ⟨h1,h2,h3,h4,h5,h6,h7⟩ := HL.out;exact ⟨qs,zs,rfl,hql,h4,h1,h2,h6,by simpa using h7,HR.out,HQ.out,HB.out⟩
  | succ j =>
   have hjm : j < qs.length := by omega
   have hzl : zs.length = m + n := HL.out.1.trans HLZ.out;have hwz := HL.out.2.1;have hgx : g < wr.heap.size := by omega
   have hsl := zYE HR.out hwz (j := j) (n := n + 1) (cap := cap - j) (by omega) (by omega) (by omega) hgx;obtain ⟨N,hN⟩ : ∃ N,n = N + 1 := ⟨n - 1,by omega⟩
   have HSB := hid (HS.out.below HB.out (Nat.le_refl _));have hps : ((zs.drop j).take (n + 1)).length = N + 2 := by rw [List.length_take,List.length_drop];omega
   have hpart := HL.out.part HWB.out hjm;rw [HN.out] at hpart;have HGU := hid (guess_any hsl (HSB.out.mono (Nat.le_of_lt hgx)) hps (by rw [HN.out,hN]) (by rw [hpart];exact HL.out.small hjm));rw [hpart] at HGU;have ej : ((j + 1 : Nat) : Int) - 1 = (j : Int) := by omega
   have i0 : (0 : Int) ≤ (j : Int) := by omega
   have el : j + n + 1 - j = n + 1 := by omega
   clear hsl hps hpart hN;go_wp2_with fail
   try rw [el]
   refine HGU.out.mono ?_;rintro e w3 ⟨⟨D,rfl,hD,hlt⟩,nd,rfl⟩;have HT := hid (takeTimes_any (cap := cap - j) (o := j) hwz (HR.out.drewN nd) (by omega) (HSB.out.drewN nd) hD (by rw [HN.out];omega));rw [HN.out] at HT;have HLT := hid hlt;clear HGU hlt;go_wp2_with fail
   try rw [el]
   refine HT.out.mono ?_;rintro e w4 ⟨zs1,c,rfl,hl1,hw1,hc0,hc1,hv1,hd1,hr1,hb1,ho1⟩;obtain ⟨d,rfl⟩ := Int.eq_ofNat_of_zero_le hD.1;have HD : Hid (zJB zs bs zs1 j (d : Int) c) := ⟨hl1,hw1,by rw [HN.out];exact hv1,by rw [HN.out];exact hd1,HLT.out,hD⟩
   have HR1 := hid hr1;have HB1 := hid ((below_drewN HB.out nd).trans hb1);have HO1 := hid ((((Only.refl g wr).drew nd).trans ho1));have HQ1 := hid (HO1.out.row (by omega) HQ.out);have hs1 : w4.heap.size = w.heap.size + 1 := HO1.out.1.trans hsz;clear HT HLT hl1 hw1 hv1 hd1 hr1 hb1 ho1 hD HR HQ HB HO1;go_wp2_with fail
   go_loopg [8,9] d (fun k s8 s9 wx => ∃ (zs1 : List Int) (c : Int),s8 = .int .u64 (k : Int) ∧ s9 = .int .u64 c ∧ 0 ≤ c ∧ c ≤ 1 ∧ Hid (zJB zs bs zs1 j (k : Int) c) ∧ Hid (Row wx g (ws zs1 ++ r)) ∧ Hid (Row wx w.heap.size (ws qs)) ∧ Hid (Below g w wx) ∧ wx.heap.size = w.heap.size + 1)
   case atStart => exact ⟨zs1,c,rfl,rfl,hc0,hc1,HD,HR1,HQ1,HB1,hs1⟩
   case round =>
    clear HD HR1 HQ1 HB1 hs1 hc0 hc1;obtain ⟨zs1,c,rfl,rfl,hc0,hc1,HD,HR1,HQ1,HB1,hs1⟩ := hrel
    by_cases hc : c = 0
    ·subst hc
     have hz : ((0 : Int) == 0) = true := rfl;have HLN := hid (HL.out.next HWB.out hjm HD.out);have c1 : wr.cell? ⟨w.heap.size,j,none⟩ = some (.int .u64 qs[j]) := Row.word (r := []) (by simpa using HQ1.out) hjm;have cf : wr.frozen? ⟨w.heap.size,j,none⟩ = false := HQ1.out.frozen j;have HQ2 : Hid (Row (wr.setCell ⟨w.heap.size,j,none⟩ (.int .u64 (gk : Int))) w.heap.size (ws (qs.set j (gk : Int)))) := by
      have := Row.setWord (r := []) (by simpa using HQ1.out) hjm (gk : Int);unfold Hid;simpa using this
     have HO2 := (Only.refl w.heap.size wr).set j (.int .u64 (gk : Int));have HR2 := hid (HO2.row (by omega) HR1.out);have HB2 := hid (HB1.out.setCell (p := ⟨w.heap.size,j,none⟩) (Nat.le_of_lt hgl) (.int .u64 (gk : Int)));have hs2 := HO2.1.trans hs1;have i2 : (j : Int) < (m : Int) := by omega
     generalize qs[j] = q0 at *;clear HO2 HQ1 HR1 HB1 HD HL;go_wp2_with fail;go_roundg j
     case rel => exact ⟨_,zs1,by go_num,by omega,HLN,HR2,HQ2,HB2,hs2⟩
     case measure => omega
    ·have hc : c = 1 := by omega
     subst hc;have hz : ((1 : Int) == 0) = false := rfl;obtain ⟨_,hd1⟩ := HD.out.over HL.out HWB.out hjm;obtain ⟨d',rfl⟩ : ∃ d',gk = d' + 1 := ⟨gk - 1,by omega⟩
     have hdw := HD.out.2.2.2.2.2;unfold IsW wB at hdw;obtain ⟨_,hdw1⟩ := hdw;have ed : ((d' + 1 : Nat) : Int) - 1 = (d' : Int) := by omega
     have hl1 : zs1.length = m + n := HD.out.1.trans hzl;have HT := hid (divAddTo_any (cap := cap - j) (o := j) HD.out.2.1 HR1.out (by omega) (HS.out.below HB1.out (Nat.le_refl _)) (by rw [HN.out];omega));rw [HN.out] at HT;go_wp2_with fail;refine HT.out.mono ?_;rintro e w5 ⟨zs2,c2,rfl,hl2,hw2,hc20,hc21,hv2,hd2,hr2,hb2,ho2⟩;have HD2 : Hid (zJB zs bs zs2 j (d' : Int) (1 - c2)) := by
      have := HD.out.step HL.out HWB.out hjm hl2 hw2 (by rw [HN.out];exact hv2) (by rw [HN.out];exact hd2);rw [ed] at this;exact this
     have HR2 := hid hr2;have HB2 := hid (HB1.out.trans hb2);have HQ2 := hid (ho2.row (by omega) HQ1.out);have hs2 := ho2.1.trans hs1;clear HT hl2 hw2 hv2 hd2 hr2 hb2 ho2 HD HR1 HQ1 HB1;go_wp2_with fail;go_roundg d'
     case rel => exact ⟨zs2,1 - c2,by go_num,by go_num,by omega,by omega,HD2,HR2,HQ2,HB2,hs2⟩
     case measure => omega
def zEF (w : World) (s : Nat) (k : Nat) (e : Ending) (w' : World) : Prop :=
 ∃ zs v,e = .returned (.tuple #[v,.int .i64 0]) ∧ Own w.heap.size w' v zs ∧ zEA zs ∧ vn zs = s ∧ zs.length ≤ k ∧ Below w.heap.size w w'
theorem zxD {w w' : World} {zs : List Int} {s k n : Nat} (hw : WF zs) (hn : zs.length = n) (hm : n ≤ 35184372088832) (hr : Row w' w.heap.size (ws zs)) (hv : vn zs = s) (hk : n ≤ k) (hb : Below w.heap.size w w') :
  zEF w s k (.returned (.tuple #[.slice (some ⟨w.heap.size,0,none⟩) (wid zs) n,.int .i64 0])) w' := by
 have hl := zGA zs;refine ⟨lst zs,_,rfl,⟨(canon_lst hw).1,.inr ⟨w.heap.size,ws (zs.drop (wid zs)),Nat.le_refl _,?_,?_,?_⟩⟩,canon_lst hw,?_,?_,hb⟩
 ·rw [length_lst,zIA];simp;omega
 ·rw [length_lst,zIA];congr 1;simp;omega
 ·have e : ws (lst zs) ++ ws (zs.drop (wid zs)) = ws zs := by
   unfold lst ws;rw [← List.map_append,List.take_append_drop]
  rw [e];exact hr
 ·rw [zUE hw];exact hv
 ·rw [length_lst];omega
theorem moved_nil {w w' : World} {s k : Nat} (hs : s = 0) (hb : Below w.heap.size w w') : zEF w s k (.returned (.tuple #[.slice none 0 0,.int .i64 0])) w' :=
 ⟨[],_,rfl,⟨WF.nil,.inl ⟨rfl,rfl⟩⟩,⟨WF.nil,rfl⟩,hs.symm,Nat.zero_le _,hb⟩
end Go.Proofs.Ytlhjogiefbjklaa
