/-
 QRText4ToItr4: RText4, Build4, Group4, RDec4, Itr4, joined.
-/
import Derived.Test.YtkdobgbicnemcaaGreatDoorQSplitO4ToOver4
import Derived.Test.YtkdobgbicnemcaaGreatDoorQJoinedToByr4
import Derived.Shelf.Strings.BuilderK
import Derived.Shelf.Strings.BuilderRune
import Derived.WalkKit
import Derived.BigCall

set_option maxRecDepth 100000
set_option maxHeartbeats 6400000
set_option linter.unusedVariables false
set_option linter.unusedSimpArgs false
namespace Go.Proofs.YtkdobgbicnemcaaGreatDoor
open Go.RowKit
def TxtH (w w2 : World) (n0 B g cap gk : Nat) (s6 s7 : Value) (wx : World) : Prop :=
 ∃ (t : Nat) (ds : List Int) (rr : List Value),gk = n0 / B ^ t ∧ s6 = .slice (some ⟨g,0,none⟩) ds.length cap ∧ ds.length ≤ cap ∧ zlC ds ∧ dval ds = ((n0 / B ^ t : Nat) : Int) ∧ RowI wx g (wi ds ++ rr) ∧ Byr w2.heap.size wx s7 (lows B n0 t) ∧ (0 < t → n0 / B ^ (t - 1) ≠ 0) ∧ Below w.heap.size w wx ∧ w2.heap.size ≤ wx.heap.size
def zrI (w5 : World) (g m0 cap : Nat) (qs : List Int) (gk : Nat) (s6 : Value) (wx : World) : Prop :=
 ∃ m : Nat,gk = m ∧ s6 = .slice (some ⟨g,0,none⟩) m cap ∧ m ≤ m0 ∧ (∀ j (h : j < qs.length),m ≤ j → qs[j] = 0) ∧ wx = w5
def RevH (w7 : World) (w : World) (hb t : Nat) (L : List Int) (gk : Nat) (s10 : Value) (wx : World) : Prop :=
 ∃ i : Nat,gk = t - i ∧ s10 = .int .i64 (i : Int) ∧ i ≤ t ∧ RowB wx hb (List.replicate (t - i) 0 ++ (L.take i).reverse) ∧ znA (· = hb) w7 wx ∧ Below w.heap.size w wx
theorem alo4 (w : World) (o : Obj) : Below w.heap.size w (w.alloc o) ∧ (w.alloc o).heap.size = w.heap.size + 1 := ⟨(Below.refl _ _).alloc (Nat.le_refl _) _,by simp⟩
theorem rtext_any {w : World} {va : Value} {xs : List Int} {B : Nat} (ha : Sl w.heap.size w va xs) (lx : xs.length ≤ 1048576) (hB : 2 ≤ B) (hB2 : B ≤ 36) :
  Calls Tryz.prog 131 #[va,.int .i64 (B : Int)] w fun e w' => e = .returned (.tuple #[.string (txt B (vn xs)),.int .i64 0]) ∧ Below w.heap.size w w' := by
 have HA := hid ha;obtain ⟨aa,ca,hva⟩ : ∃ a c,va = .slice a xs.length c := by obtain ⟨_,a,c,e,_⟩ := ha;exact ⟨a,c,e⟩
 subst hva;have HVN : Hid (val xs = ((vn xs : Nat) : Int)) := zJA ha.1;have HLT : Hid (vn xs < 2 ^ (64 * xs.length)) := zfH ha.1;have b1 : ¬ (B : Int) < 2 := by omega
 have b2 : ¬ (36 : Int) < (B : Int) := by omega
 clear ha;generalize vn xs = n0 at *;obtain ⟨n,hn⟩ : ∃ n,xs.length = n := ⟨_,rfl⟩
 have HSP := hid (split_own HA.out (by omega));rw [HVN.out] at HSP;rw [hn] at HSP HLT lx ⊢;clear hn HA HVN;go_enter Tryz.func131,Tryz.ntmps131;go_wp2_with fail;refine HSP.out.mono ?_;rintro e w2 ⟨ds0,rest,rfl,hrow,hcan,hval,hlen,hb,hsz⟩;have H0 : Hid (TxtH w w2 n0 B w.heap.size (4 * n) n0 (.slice (some ⟨w.heap.size,0,none⟩) ds0.length (4 * n)) (.slice none 0 0) w2) := ⟨0,ds0,rest,by simp,rfl,hlen,hcan,by simpa using hval,hrow,Byr.nil _ _,fun h => absurd h (Nat.lt_irrefl 0),hb,Nat.le_refl _⟩
 have HSZ := hid hsz;have hlc : ds0.length ≤ 4 * n := hlen;clear HSP hrow hcan hval hlen hb hsz;go_wp2_with fail
 go_loopg [6,7] n0 (fun gk s6 s7 wx => TxtH w w2 n0 B w.heap.size (4 * n) gk s6 s7 wx)
 case atStart => exact H0.out
 case round =>
  clear H0 hlc;obtain ⟨t,ds,rr,hgk,rfl,hlc,hcan,hval,hrow,hby,ht1,hbl,hsw⟩ := hrel;have HG := hid hgk;clear hgk;have HBL := hid hbl;have HSW := hid hsw;have HT1 := hid ht1;have HBY := hid hby;have HTB : Hid (t ≤ 67108864) := Nat.le_trans (steps_le hB HLT.out ht1) (by omega)
  by_cases hpos : 0 < ds.length
  ·have hp' : (0 : Int) < (ds.length : Int) := by omega
   have HOV := hid (over_any (cap := 4 * n) hrow rfl hcan.1 hB hB2 (by omega) hlc);have hnz : n0 / B ^ t ≠ 0 := fun e => by
    rw [e] at hval;have := dcanon_zero hcan (by simpa using hval);rw [this] at hpos;simp at hpos
   have HNZ := hid hnz;have HV := hid hval;obtain ⟨m0,hm0⟩ : ∃ m0,ds.length = m0 := ⟨_,rfl⟩
   have HDV : Hid (dval ds = ((n0 / B ^ t : Nat) : Int)) := hval;rw [hm0] at HOV hp' hlc ⊢;clear hbl hsw ht1 hby hcan hval hrow hnz hpos hm0;go_wp2_with fail;refine HOV.out.mono ?_;rintro e w3 ⟨rest,qs,rfl,hr0,hr1,hql,hdq,hv,hrow,htc⟩;obtain ⟨hq1,hq2⟩ := div_next HDV.out hv hr0 hr1;obtain ⟨d,hd⟩ : ∃ d,n0 / B ^ t % B = d := ⟨_,rfl⟩
   rw [hd] at hq2;subst hq2;have hd36 : d < 36 := by omega
   have HQV := hid hq1;have HQL := hid hql;have HDQ := hid hdq;have HRW := hid hrow;have HD := hid hd;have HTC := hid htc;have HBY3 : Hid (Byr w2.heap.size w3 u7 (lows B n0 t)) := HBY.out.keep fun g hg hgl => htc.block g hgl (fun e => by have := HSZ.out;omega)
   have HBL3 : Hid (Below w.heap.size w w3) := zGD HBL.out htc (fun g e => by rw [e];exact Nat.le_refl _) HBL.out.size;have HSW3 : Hid (w2.heap.size ≤ w3.heap.size) := Nat.le_trans HSW.out htc.size;have HSG : Hid (∀ h : d < sigT.size,((sigT[d]'h).toNat : Int) = sgn d) := fun h => zaG d hd36 h
   have hd' : (d : Int) < 36 := by omega
   clear HOV hv hr0 hr1 hq1 hd hdq hql hrow htc HBY HBL HSW HDV HV;have HCC : Hid (∀ c : Int,(w3.alloc (.cells #[.int .u8 c] 5)).cell? ⟨w3.heap.size,0,none⟩ = some (.int .u8 c)) := fun c => by simp
   have HB4 : Hid (∀ c : Int,Byr w2.heap.size (w3.alloc (.cells #[.int .u8 c] 5)) u7 (lows B n0 t)) := fun c => HBY3.out.now (alo4 w3 _).1
   have HBQ : Hid (∀ c : Int,w2.heap.size ≤ (w3.alloc (.cells #[.int .u8 c] 5)).heap.size) := fun c => Nat.le_trans HSW3.out (alo4 w3 _).1.size
   have HLL : Hid ((lows B n0 t).length ≤ 1000000000) := by unfold Hid;rw [zFE];have := HTB.out;omega
   have HB3 : Hid (∀ (c : Int) w',Below w2.heap.size (w3.alloc (.cells #[.int .u8 c] 5)) w' → RowI w' w.heap.size (wi qs ++ rr) ∧ Below w.heap.size w w' ∧ w2.heap.size ≤ w'.heap.size) := fun c w' h => by
    have q := (alo4 w3 (.cells #[.int .u8 c] 5)).1;refine ⟨((HRW.out.alloc _).below h HSZ.out),(below_step HBL3.out q).trans (h.mono (Nat.le_of_lt HSZ.out)),Nat.le_trans (HBQ.out c) h.size⟩
   clear HBY3 HRW HBL3 HSW3;go_wp2_with (at_builtin;refine wpList_append_byr _ rfl (.tmp 25) (.tmp 28) rfl w2.heap.size _ (lows B n0 t) _ rfl (HB4.out _) w3.heap.size rfl (HCC.out _) HLL.out (HBQ.out _) ?_)
   intro m5 a5 cap5 w5 hm5 hby5 hbw5;obtain ⟨hrow5,hbl5,hsw5⟩ := HB3.out _ _ hbw5.out;have BY5 : Hid (Byr w2.heap.size w5 (.slice a5 m5 cap5) (lows B n0 (t + 1))) := by
    unfold Hid;rw [lows_next,HD.out,← HSG.out (by rw [zND];exact hd36)];exact hby5.out
   have RW5 := hid hrow5;have BL5 := hid hbl5;have SW5 := hid hsw5;clear hm5 hby5 hbw5 hrow5 hbl5 hsw5 HB3 HB4 HBQ HCC HLL HSG;have HMO : Hid (n0 / B ^ (t + 1) < gk) := by unfold Hid;rw [HG.out];exact quot_less hB HNZ.out
   have HI0 : Hid (zrI w5 w.heap.size m0 (4 * n) qs m0 (.slice (some ⟨w.heap.size,0,none⟩) m0 (4 * n)) w5) := ⟨m0,rfl,rfl,Nat.le_refl _,fun j h hj => by have := HQL.out;omega,rfl⟩
   go_wp2_with fail
   go_loopg [6] m0 (fun gk s6 wx => zrI w5 w.heap.size m0 (4 * n) qs gk s6 wx)
   case atStart => exact HI0.out
   case round =>
    clear HI0;obtain ⟨m,hgm,rfl,hmm,hzz,hwx⟩ := hrel;rw [hwx];have HZZ := hid hzz;have HGM := hid hgm;have HEND : Hid (dwid qs = m → TxtH w w2 n0 B w.heap.size (4 * n) (n0 / B ^ (t + 1)) (.slice (some ⟨w.heap.size,0,none⟩) m (4 * n)) (.slice a5 m5 cap5) w5) := fun hm => by
     refine ⟨t + 1,dlst qs,wi (qs.drop (dwid qs)) ++ rr,rfl,by rw [dlength_lst,hm],by rw [dlength_lst,hm];omega,dcanon_lst HDQ.out,by rw [zSC];exact HQV.out,?_,BY5.out,fun _ => by simpa using HNZ.out,BL5.out,SW5.out⟩;have e : wi qs = wi (dlst qs) ++ wi (qs.drop (dwid qs)) := by
      unfold wi dlst;rw [← List.map_append,List.take_append_drop]
     have q := RW5.out;rw [e,List.append_assoc] at q;exact q
    have HWI : Hid ((∀ j (h : j < qs.length),m ≤ j → qs[j] = 0) → (0 < m → ∀ h' : m - 1 < qs.length,qs[m - 1] ≠ 0) → dwid qs = m) := fun h2 h3 => ziC (by have := HQL.out;omega) h2 h3
    clear hzz hgm hwx
    by_cases h0 : m = 0
    ·subst h0
     replace HEND := hid (HEND.out (HWI.out HZZ.out (fun h => absurd h (Nat.lt_irrefl 0))));clear HWI HZZ HGM BY5 RW5 BL5 SW5 HG;go_wp2_with fail;go_roundg (n0 / B ^ (t + 1))
     case rel => exact HEND.out
     case measure => exact HMO.out
    ·obtain ⟨k,rfl⟩ : ∃ k,m = k + 1 := ⟨m - 1,by omega⟩
     have hk : k < qs.length := by have := HQL.out;omega
     have c0 := RW5.out.num hk;obtain ⟨x,hx⟩ : ∃ x,qs[k] = x := ⟨_,rfl⟩
     rw [hx] at c0;have HX : Hid (qs[k] = x) := hx;have hw1 : IntKind.i64.wrap (((k + 1 : Nat) : Int) - 1) = (k : Int) := by rw [zYA] <;> omega
     have hp2 : (0 : Int) < ((k + 1 : Nat) : Int) := by omega
     have hkk : (k : Int) < ((k + 1 : Nat) : Int) := by omega
     clear hx h0
     by_cases hx0 : x = 0
     ·have hte : (x == 0) = true := by simp [hx0]
      have HN3 : Hid (zrI w5 w.heap.size m0 (4 * n) qs k (.slice (some ⟨w.heap.size,0,none⟩) k (4 * n)) w5) := ⟨k,rfl,rfl,by omega,fun j h hj => by
       by_cases e : j = k
       ·subst e;rw [HX.out];exact hx0
       ·exact HZZ.out j h (by omega),rfl⟩
      have HM3 : Hid (k < gk) := by unfold Hid;rw [HGM.out];omega
      clear HEND HWI HZZ HGM BY5 RW5 BL5 SW5 HG HMO hx0;go_wp2_with fail;go_roundg k
      case rel => exact HN3.out
      case measure => exact HM3.out
     ·have hte : (x == 0) = false := by simp [hx0]
      replace HEND := hid (HEND.out (HWI.out HZZ.out (fun _ h' => by simp only [Nat.add_sub_cancel] at h' ⊢;rw [HX.out];exact hx0)));clear HWI HZZ HGM BY5 RW5 BL5 SW5 HG hx0;go_wp2_with fail;go_roundg (n0 / B ^ (t + 1))
      case rel => exact HEND.out
      case measure => exact HMO.out
  ·have hp' : ¬ (0 : Int) < (ds.length : Int) := by omega
   have hnil : ds = [] := List.eq_nil_of_length_eq_zero (by omega);subst hnil;have hz : n0 / B ^ t = 0 := by
    have h : ((n0 / B ^ t : Nat) : Int) = 0 := hval.symm
    exact_mod_cast h
   have HLD := hid (lows_lead hB hz ht1);obtain ⟨a7,cap7,e7⟩ := hby.form;rw [zFE] at e7;subst e7;clear hbl hsw ht1 hby hcan hval hrow HG HT1 hpos hlc hz
   by_cases ht0 : t = 0
   ·subst ht0
    have HX : Hid (txt B n0 = ⟨#[48]⟩) := by
     have q := HLD.out;simp only [digF,List.map_nil] at q;unfold Hid txt
     by_cases h0 : n0 = 0
     ·rw [h0];rfl
     ·rw [if_neg h0] at q
      exact absurd q.symm (zkH hB h0)
    clear HLD HBY HSW HTB;go_wp2;go_ret2;exact ⟨by rw [HX.out];rfl,HBL.out⟩
   ·obtain ⟨g7,rfl,-,hg7,hgl7,hc7⟩ := HBY.out.cells (by rw [zFE];omega)
    have hte : ((t : Int) == 0) = false := by simp;omega
    have htb := HTB.out;have HC7 := hid hc7;have HGL7 := hid hgl7;clear hc7 hgl7 hg7 HBY HTB;go_wp2_with (at_make;refine zFC _ rfl _ _ rfl _ _ t rfl rfl rfl rfl (by omega) ?_)
    intro w8 hr8 hb8;have H0 : Hid (RevH w8 w wr.heap.size t (lows B n0 t) t (.int .i64 0) w8) := ⟨0,by simp,rfl,Nat.zero_le _,by simpa using hr8.out,znA.refl _ _,below_step HBL.out hb8.out⟩
    have HC8 : Hid (∀ i,i < (lows B n0 t).length → w8.cell? ⟨g7,i,none⟩ = some (.int .u8 ((lows B n0 t).getD i 0))) := fun i hi => (hb8.out.cell (p := ⟨g7,i,none⟩) HGL7.out).trans (HC7.out i hi)
    have HLN := zFE B n0 t;have HGW : Hid (w.heap.size ≤ wr.heap.size) := HBL.out.size;have HG8 : Hid (g7 < w8.heap.size) := Nat.lt_of_lt_of_le HGL7.out hb8.out.size;have HLS : Hid (lows B n0 t = ((digF B t n0).map sgn).reverse) := by unfold Hid lows;rw [List.map_reverse]
    clear hr8 hb8 HC7 HBL HSW;generalize lows B n0 t = LL at *;generalize wr.heap.size = h8 at *;have HLN' := hid HLN;clear HLN;go_wp2_with fail
    go_loopg [10] t (fun gk s10 wx => RevH w8 w h8 t LL gk s10 wx)
    case atStart => exact H0.out
    case round =>
     clear H0;obtain ⟨i,hgk,rfl,hit,hrb,htc,hbl⟩ := hrel;have HG := hid hgk;have HRB := hid hrb;have HTC := hid htc;have HBL := hid hbl;clear hgk hrb htc hbl
     by_cases hlt : i < t
     ·have hlt' : (i : Int) < (t : Int) := by omega
      obtain ⟨j,hj⟩ : ∃ j,t = j + i + 1 := ⟨t - 1 - i,by omega⟩
      have c0 : wr.cell? ⟨g7,i,none⟩ = some (.int .u8 (LL.getD i 0)) := (HTC.out.cell HG8.out (fun e => by have := HGL7.out;omega) i).trans (HC8.out i (by rw [HLN'.out];exact hlt));have hrl : (List.replicate (t - i) (0 : Int) ++ (LL.take i).reverse).length = t := by simp [HLN'.out];omega
      obtain ⟨ov,c1⟩ : ∃ ov,wr.cell? ⟨h8,j,none⟩ = some (.int .u8 ov) := ⟨_,HRB.out.cell (i := j) (by rw [hrl];omega)⟩
      have f1 := HRB.out.frozen j;have hst : Hid (RowB (wr.setCell ⟨h8,j,none⟩ (.int .u8 (LL.getD i 0))) h8 (List.replicate (t - (i + 1)) 0 ++ (LL.take (i + 1)).reverse)) := by
       unfold Hid;have q := HRB.out.set j (LL.getD i 0);have hi : i < LL.length := by rw [HLN'.out];exact hlt
       rw [zsG (A := List.replicate (t - i) 0) (n := j) (by simp;omega),List.take_replicate,Nat.min_eq_left (by omega)] at q;rw [show t - (i + 1) = j by omega,List.take_succ_eq_append_getElem hi,List.reverse_append];have e : LL.getD i 0 = LL[i] := by simp [hi]
       rw [e] at q;rw [e]
       simpa using q
      have hw1 : IntKind.i64.wrap ((t : Int) - 1) = (t : Int) - 1 := by rw [zYA] <;> omega
      have hw2 : IntKind.i64.wrap ((t : Int) - 1 - (i : Int)) = (j : Int) := by rw [zYA] <;> omega
      have hw3 : IntKind.i64.wrap ((i : Int) + 1) = ((i + 1 : Nat) : Int) := by rw [zYA] <;> omega
      have hjt : (j : Int) < (t : Int) := by omega
      generalize LL.getD i 0 = cv at *;have HN1 : Hid (RevH w8 w h8 t LL (t - (i + 1)) (.int .i64 ((i + 1 : Nat) : Int)) (wr.setCell ⟨h8,j,none⟩ (.int .u8 cv))) := ⟨i + 1,rfl,rfl,by omega,hst.out,HTC.out.setCell (.inr rfl) j _,HBL.out.setCell (p := ⟨h8,j,none⟩) HGW.out _⟩
      have HMM : Hid (t - (i + 1) < gk) := by unfold Hid;rw [HG.out];omega
      clear hst hj hrl HRB HTC HBL HG;go_wp2_with fail;go_roundg (t - (i + 1))
      case rel => exact HN1.out
      case measure => exact HMM.out
     ·have hlt' : ¬ (i : Int) < (t : Int) := by omega
      obtain rfl : i = t := by omega
      have hrow : RowB wr h8 ((digF B i n0).map sgn) := by
       have q := HRB.out;rw [Nat.sub_self,List.replicate_zero,List.nil_append,List.take_of_length_le (by rw [HLN'.out];exact Nat.le_refl _),HLS.out,List.reverse_reverse] at q;exact q
      have hdl : ((digF B i n0).map sgn).length = i := by simp [zAB]
      have hcv := run_convert_bytes_arg (P := Tryz.prog) wr 110 5 Tryz.underlying110 Tryz.underlying5 h8 0 i i ((digF B i n0).map sgn) hdl (fun k hk => by
       rw [Nat.zero_add,hrow.cell (by rw [hdl];exact hk)];have hk' : k < ((digF B i n0).map sgn).length := by rw [hdl];exact hk
       rw [List.getD_eq_getElem?_getD,List.getElem?_eq_getElem hk']
       rfl) 9 Tryz.underlying9
      rw [zeC] at hcv;have HX : Hid (txt B n0 = ⟨((digF B i n0).map sgnB).toArray⟩) := by
       have q := HLD.out;unfold Hid txt
       by_cases h0 : n0 = 0
       ·rw [if_pos h0] at q
        have := congrArg List.length q;simp [zAB] at this;omega
       ·rw [if_neg h0] at q
        rw [q]
      clear HLD HLS hrow hdl HRB HTC HG HC8;generalize (digF B i n0).map sgnB = src at *;go_wp2;go_ret2;exact ⟨by rw [HX.out];rfl,HBL.out⟩


theorem rdec_any {w : World} {va : Value} {xs : List Int} (ha : Sl w.heap.size w va xs) (lx : xs.length ≤ 1048576) :
  Calls Tryz.prog 105 #[va] w fun e w' => e = .returned (.string (txt 10 (vn xs))) ∧ Below w.heap.size w w' := by
 have HT := hid (rtext_any (B := 10) ha lx (by omega) (by omega));obtain ⟨a,c,rfl⟩ : ∃ a c,va = .slice a xs.length c := by obtain ⟨_,a,c,e,_⟩ := ha;exact ⟨a,c,e⟩
 clear ha;go_enter Tryz.func105,Tryz.ntmps105;go_wp2_with fail;refine HT.out.mono ?_;rintro e w1 ⟨rfl,k⟩;have K := hid k;clear k HT;go_wp2;go_ret;exact ⟨rfl,K.out⟩
def Itr (B : Nat) (w : World) (v : Value) (ds : List Int) : Prop := w.ownsRow B 3 1 v ds.length (wi ds)
theorem Itr.nil (B : Nat) (w : World) : Itr B w (.slice none 0 0) [] := World.ownsRow_nil _ _ _ _
theorem Itr.now {B : Nat} {w w' : World} {v : Value} {ds : List Int} (h : Itr B w v ds) (hb : Below w.heap.size w w') : Itr B w' v ds := by
 obtain ⟨q1,q2 | ⟨g,cap,cur,q2,q3,q4,q5⟩⟩ := h
 ·exact ⟨q1,.inl q2⟩
 ·exact ⟨q1,.inr ⟨g,cap,cur,q2,q3,(hb.block g (Array.getElem?_eq_some_iff.1 q4).1).trans q4,q5⟩⟩
theorem Itr.row {B : Nat} {w : World} {v : Value} {ds : List Int} (h : Itr B w v ds) (hn : 0 < ds.length) : ∃ g cap rest,v = .slice (some ⟨g,0,none⟩) ds.length cap ∧ B ≤ g ∧ g < w.heap.size ∧ RowI w g (wi ds ++ rest) ∧ ds.length + rest.length = cap ∧ cap ≤ maxLen := by
 obtain ⟨q1,⟨q2,q3⟩ | ⟨g,cap,cur,q2,q3,q4,q5,q6,q7,q8⟩⟩ := h
 ·omega
 ·rw [Nat.mul_one] at q7 q8
  refine ⟨g,cap,cur.toList.drop ds.length,q2,q3,(Array.getElem?_eq_some_iff.1 q4).1,?_,?_,q6⟩
  ·unfold RowI
   rw [← q8,List.take_append_drop]
   simpa using q4
  ·have e : cur.toList.length = cap := by simp [q7]
   rw [List.length_drop,e];omega
theorem Itr.of {B : Nat} {w : World} {g cap : Nat} {ds : List Int} {rest : List Value} (hB : B ≤ g) (hr : RowI w g (wi ds ++ rest)) (hc : ds.length + rest.length = cap) (hm : cap ≤ maxLen) : Itr B w (.slice (some ⟨g,0,none⟩) ds.length cap) ds := by
 refine ⟨by simp [wi],.inr ⟨g,cap,(wi ds ++ rest).toArray,rfl,hB,hr,by omega,hm,?_,?_⟩⟩
 ·simp [wi];omega
 ·simp [wi]
theorem wpList_append_itr (w : World) {ops : Array Oper} {rest : List Oper} {o : Oper} {a : Act} {Q : Exit → Act → World → Prop}
  (hgd : o.guard = none) (s x : Operand) (hop : o.op = .call { callee := .builtin .append,args := #[s,x],argTypes := #[84,84] })
  (B : Nat) (v : Value) (L : List Int) (c : Int) (hs : a.eval s = v) (hB : Itr B w v L) (g : Nat) (hx : a.eval x = .slice (some ⟨g,0,none⟩) 1 1) (hc : w.cell? ⟨g,0,none⟩ = some (.int .i64 c)) (hlen : L.length ≤ 1000000000) (hBs : B ≤ w.heap.size)
  (hK : ∀ a' cap' w',Hid (Itr B w' (.slice a' (L.length + 1) cap') (L ++ [c])) → Hid (Below B w w') → wpList Tryz.prog ops Q rest (a.put o.dst (.slice a' (L.length + 1) cap')) w') :
  wpList Tryz.prog ops Q (o :: rest) a w := by
 obtain ⟨i,hi,hz,hsz,hby⟩ := info_parts Tryz.infoI;refine wpList_append_lies w hgd s x 84 hop B 3 i (.int .i64 0) 1 8 Tryz.underlying84 hi hz hsz hby rfl (by omega) v L.length (wi L) hs hB ⟨g,0,none⟩ 1 1 [.int .i64 c] hx rfl ?_ ?_ (by omega) (by unfold maxLen;omega) (by omega) hBs w.heap.size rfl ?_
 ·intro j u' hj
  match j,hj with
  | 0,hj => simp at hj;subst hj;rw [zNC];exact hc
 ·intro u' hu'
  simp at hu';subst hu'
  rfl
 ·intro g' cap' w' k1 k2 k3 k4
  refine hK _ _ w' ?_ ?_
  ·unfold Hid Itr
   have e : wi (L ++ [c]) = wi L ++ [.int .i64 c] := by simp [wi]
   rw [e,List.length_append,List.length_singleton];exact k1
  ·refine ⟨k2.os,k2.tape,k2.output,k2.size,fun k hk => k2.block k (by omega) (fun e => ?_)⟩
   obtain ⟨_,⟨q,_⟩ | ⟨g1,cap1,cur,q,q3,_⟩⟩ := hB
   ·rw [q] at e;cases e
   ·rw [q] at e
    obtain rfl : k = g1 := by simpa [Value.ownBlock] using e
    omega
theorem dval_take4 {ds : List Int} {i : Nat} (h : i < ds.length) : dval (ds.take (i + 1)) = dval (ds.take i) + dpw i * ds[i] := by
 rw [List.take_succ_eq_append_getElem h,zHB];simp [dval,Nat.min_eq_left (Nat.le_of_lt h)]
theorem onto_step {es ds : List Int} {i : Nat} {B v0 c x : Int} (hi : i < ds.length) (hx : ds[i] = x) (hl : es.length = i) (hd : DF es) (he : dval es + dpw i * c = B * dval (ds.take i) + v0) :
  DF (es ++ [(x * B + c) % 65536]) ∧ dval (es ++ [(x * B + c) % 65536]) + dpw (i + 1) * ((x * B + c) / 65536) = B * dval (ds.take (i + 1)) + v0 := by
 refine zhD hl hd ?_;rw [dval_take4 hi,hx];generalize dval (ds.take i) = T at *;generalize dpw i = P at *;generalize dval es = E at *
 grind
theorem set_mid {es ds : List Int} {i : Nat} {z : Int} (hl : es.length = i) (hi : i < ds.length) : (es ++ ds.drop i).set i z = es ++ [z] ++ ds.drop (i + 1) := by
 have e := List.drop_eq_getElem_cons hi;rw [List.set_append_right _ _ (by omega),hl,Nat.sub_self,e,List.set_cons_zero,List.append_assoc]
 rfl
def ValH (w : World) (c : Nat) (gk : Nat) (s3 : Value) (wx : World) : Prop := ∃ i : Nat,gk = 36 - i ∧ s3 = .int .i64 (i : Int) ∧ i ≤ 36 ∧ (∀ e,e < i → sgn e ≠ (c : Int)) ∧ wx = w
theorem value_any {c : Nat} (hc : c < 256) (w : World) : Calls Tryz.prog 154 #[.int .u8 (c : Int)] w fun e w' => e = .returned (.int .i64 (dv c : Int)) ∧ w' = w := by
 by_cases hu : 65 ≤ c ∧ c ≤ 90
 ·have e : dv c = c - 55 := by unfold dv;rw [if_neg (by omega),if_neg (by omega),if_pos hu]
  rw [e];obtain ⟨h1,h2⟩ := hu;have h1' : (65 : Int) ≤ (c : Int) := by omega
  have h2' : (c : Int) ≤ 90 := by omega
  have w1 : IntKind.u8.wrap ((c : Int) - 65) = (c : Int) - 65 := by rw [IntKind.wrap_u8];omega
  have w2 : IntKind.i64.wrap ((c : Int) - 65) = (c : Int) - 65 := by rw [zYA] <;> omega
  have w3 : IntKind.i64.wrap ((c : Int) - 65 + 10) = ((c - 55 : Nat) : Int) := by rw [zYA] <;> omega
  clear e;go_enter Tryz.func154,Tryz.ntmps154;go_wp2;go_ret;exact ⟨rfl,rfl⟩
 ·have H0 : Hid (ValH w c 36 (.int .i64 0) w) := ⟨0,rfl,rfl,by omega,fun e h => absurd h (Nat.not_lt_zero _),rfl⟩
  have HLW : Hid (lw c = c) := by unfold Hid lw;rw [if_neg hu]
  by_cases h65 : 65 ≤ c
  ·have h1' : (65 : Int) ≤ (c : Int) := by omega
   have h2' : ¬ (c : Int) ≤ 90 := by omega
   clear hu h65;go_enter Tryz.func154,Tryz.ntmps154;go_wp2_with fail
   go_loopg [3] 36 (fun gk s3 wx => ValH w c gk s3 wx)
   case atStart => exact H0.out
   case round =>
    clear H0;obtain ⟨i,hgk,rfl,hi,hall,hwx⟩ := hrel;rw [hwx];have HG := hid hgk;have HA := hid hall;clear hgk hall hwx
    by_cases hlt : i < 36
    ·have hlt' : (i : Int) < 36 := by omega
     have hq := zaG i hlt (by rw [zND];exact hlt);unfold sigT at hq;have hw3 : IntKind.i64.wrap ((i : Int) + 1) = ((i + 1 : Nat) : Int) := by rw [zYA] <;> omega
     by_cases hs : sgn i = (c : Int)
     ·have hb : (sgn i == (c : Int)) = true := by simp [hs]
      have HD : Hid (dv c = i) := zpI hlt (by rw [HLW.out];exact hs);clear hs HG HA;generalize sgn i = sv at *;go_wp2;go_ret;exact ⟨by rw [HD.out];rfl,rfl⟩
     ·have hb : (sgn i == (c : Int)) = false := by simp [hs]
      have HN1 : Hid (ValH w c (36 - (i + 1)) (.int .i64 ((i + 1 : Nat) : Int)) w) := ⟨i + 1,rfl,rfl,by omega,fun e he => by
       by_cases q : e = i
       ·rw [q];exact hs
       ·exact HA.out e (by omega),rfl⟩
      have HMM : Hid (36 - (i + 1) < gk) := by unfold Hid;rw [HG.out];omega
      clear hs HG HA;generalize sgn i = sv at *;go_wp2_with fail;go_roundg (36 - (i + 1))
      case rel => exact HN1.out
      case measure => exact HMM.out
    ·have hlt' : ¬ (i : Int) < 36 := by omega
     have HD : Hid (dv c = 99) := by
      unfold Hid;have h1 : ¬ dv c < 36 := fun h => HA.out (dv c) (by omega) (by rw [zrH h,HLW.out])
      unfold dv at h1 ⊢
      split <;> (try split) <;> (try split) <;> simp_all <;> omega
     clear HG HA;go_wp2;go_ret;exact ⟨by rw [HD.out];rfl,rfl⟩
  ·have h1' : ¬ (65 : Int) ≤ (c : Int) := by omega
   clear hu h65;go_enter Tryz.func154,Tryz.ntmps154;go_wp2_with fail
   go_loopg [3] 36 (fun gk s3 wx => ValH w c gk s3 wx)
   case atStart => exact H0.out
   case round =>
    clear H0;obtain ⟨i,hgk,rfl,hi,hall,hwx⟩ := hrel;rw [hwx];have HG := hid hgk;have HA := hid hall;clear hgk hall hwx
    by_cases hlt : i < 36
    ·have hlt' : (i : Int) < 36 := by omega
     have hq := zaG i hlt (by rw [zND];exact hlt);unfold sigT at hq;have hw3 : IntKind.i64.wrap ((i : Int) + 1) = ((i + 1 : Nat) : Int) := by rw [zYA] <;> omega
     by_cases hs : sgn i = (c : Int)
     ·have hb : (sgn i == (c : Int)) = true := by simp [hs]
      have HD : Hid (dv c = i) := zpI hlt (by rw [HLW.out];exact hs);clear hs HG HA;generalize sgn i = sv at *;go_wp2;go_ret;exact ⟨by rw [HD.out];rfl,rfl⟩
     ·have hb : (sgn i == (c : Int)) = false := by simp [hs]
      have HN1 : Hid (ValH w c (36 - (i + 1)) (.int .i64 ((i + 1 : Nat) : Int)) w) := ⟨i + 1,rfl,rfl,by omega,fun e he => by
       by_cases q : e = i
       ·rw [q];exact hs
       ·exact HA.out e (by omega),rfl⟩
      have HMM : Hid (36 - (i + 1) < gk) := by unfold Hid;rw [HG.out];omega
      clear hs HG HA;generalize sgn i = sv at *;go_wp2_with fail;go_roundg (36 - (i + 1))
      case rel => exact HN1.out
      case measure => exact HMM.out
    ·have hlt' : ¬ (i : Int) < 36 := by omega
     have HD : Hid (dv c = 99) := by
      unfold Hid;have h1 : ¬ dv c < 36 := fun h => HA.out (dv c) (by omega) (by rw [zrH h,HLW.out])
      unfold dv at h1 ⊢
      split <;> (try split) <;> (try split) <;> simp_all <;> omega
     clear HG HA;go_wp2;go_ret;exact ⟨by rw [HD.out];rfl,rfl⟩
end Go.Proofs.YtkdobgbicnemcaaGreatDoor
