/-
 QKdToKMem: Kd, KMem, joined.
-/
import Derived.Test.YtppddlbkdoebmaaQKd9
import Derived.Test.YtppddlbkdoebmaaQExact0ToRDivMod

set_option maxRecDepth 100000
set_option maxHeartbeats 6400000
set_option linter.unusedVariables false
set_option linter.unusedSimpArgs false
namespace Go.Proofs.Ytppddlbkdoebmaa
open Go.RowKit
theorem keeps_any {w : World} {va vb : Value} {xs ys : List Int} {kind W K : Int} (ha : Sl w.heap.size w va xs) (hb : Sl w.heap.size w vb ys) (la : xs.length ≤ 1048576) (lb : ys.length ≤ 1048576) (hW : IsW W) (hK : -9223372036854775808 ≤ K ∧ K ≤ 9223372036854775807) (h1 : 1 ≤ kind) (h7 : kind ≤ 7) :
  Calls Try.prog 7 #[.agg #[.int .i64 kind,va,vb,.int .u64 W,.int .i64 K]] w (zYB w) := by
 obtain ⟨aa,ca,hva⟩ : ∃ a c,va = .slice a xs.length c := by obtain ⟨_,a,c,e,_⟩ := ha;exact ⟨a,c,e⟩
 obtain ⟨ab,cb,hvb⟩ : ∃ a c,vb = .slice a ys.length c := by obtain ⟨_,a,c,e,_⟩ := hb;exact ⟨a,c,e⟩
 have CAL := hid (znC (kind := kind) (xs := xs) (ys := ys) (W := W) (K := K) h1 h7 ha.1 la lb hW hK);have CA2 := hid (znC (kind := kind) (xs := [6,1]) (ys := [4]) (W := 5) (K := 2) h1 h7 (zCB (by omega) (zCB (by omega) WF.nil)) (by simp) (by simp) (by unfold IsW wB;omega) (by omega));have CA3 := hid (znC (kind := kind) (xs := zPA xs) (ys := zPA ys) (W := W) (K := K) h1 h7 (zPB xs) (by rw [zUA];exact la) (by rw [zUA];exact lb) hW hK);have CA4 := hid (znC (kind := kind) (xs := lst (zPA xs)) (ys := lst (zPA ys)) (W := W) (K := K) h1 h7 (canon_lst (zPB xs)).1 (by rw [length_lst];have := zIA (zPA xs);rw [zUA] at this;omega) (by rw [length_lst];have := zIA (zPA ys);rw [zUA] at this;omega) hW hK);rw [specOf_lst (zPB xs)] at CA4;have LN1 : Hid (∀ qs rs r N E,zjB kind xs ys W K qs rs r N E → qs.length ≤ 1000000000 ∧ rs.length ≤ 1000000000) := hid fun qs rs r N E h => ztC ha.1 hb.1 la lb h
 have LN2 : Hid (∀ qs rs r N E,zjB kind [6,1] [4] 5 2 qs rs r N E → qs.length ≤ 1000000000 ∧ rs.length ≤ 1000000000) := hid fun qs rs r N E h => ztC (zCB (by omega) (zCB (by omega) WF.nil)) (zCB (by omega) WF.nil) (by simp) (by simp) h
 have LN3 : Hid (∀ qs rs r N E,zjB kind (zPA xs) (zPA ys) W K qs rs r N E → qs.length ≤ 1000000000 ∧ rs.length ≤ 1000000000) := hid fun qs rs r N E h => ztC (zPB xs) (zPB ys) (by rw [zUA];exact la) (by rw [zUA];exact lb) h
 generalize zjB kind xs ys W K = S1 at *;generalize zjB kind [6,1] [4] 5 2 = S2 at *;generalize zjB kind (zPA xs) (zPA ys) W K = S3 at *;have WX := hid ha.1;have WY := hid hb.1;subst hva hvb;obtain ⟨na,hna⟩ : ∃ n,xs.length = n := ⟨_,rfl⟩
 obtain ⟨nb,hnb⟩ : ∃ n,ys.length = n := ⟨_,rfl⟩
 have HNA := hid hna;have HNB := hid hnb;rw [hna] at ha la ⊢;rw [hnb] at hb lb ⊢;have HA := hid ha;have HB := hid hb;have X0 := hid (Bx.start w (opOf kind (.slice aa na ca) (.slice ab nb cb) W K));clear ha hb hW hK h1 h7 hna hnb;go_enter Try.func7,Try.ntmps7;go_wp2_with fail;refine (ztE (HA.out.now X0.out.1) (by rw [HNA.out];omega)).mono ?_;rintro e w1 ⟨rfl,rr,kk⟩;rw [HNA.out];obtain ⟨ra,hra⟩ : ∃ g,(w.alloc (opOf kind (.slice aa na ca) (.slice ab nb cb) W K)).heap.size = g := ⟨_,rfl⟩
 have QA : Hid (w.heap.size < ra) := by unfold Hid;rw [← hra];exact X0.out.lt
 rw [hra] at rr ⊢;have RA : Hid (Rm w1 ra xs) := rr;have X1 := hid (X0.out.step kk);clear rr kk X0 hra;obtain ⟨o0,o1,o2,o3,o4⟩ := zEA X1.out.2;go_wp2_with fail;refine (ztE (HB.out.now X1.out.1) (by rw [HNB.out];omega)).mono ?_;rintro e w2 ⟨rfl,rr,kk⟩;rw [HNB.out];have QB : Hid (ra < w1.heap.size) := RA.out.lt;have RB : Hid (Rm w2 w1.heap.size ys) := rr;have T2 : Hid (St3 w ra w1.heap.size xs ys [(w.heap.size,opOf kind (.slice aa na ca) (.slice ab nb cb) W K)] [] w2) := hid (by
  have x2 := X1.out.step kk;refine ⟨x2.1,RA.out.step kk,rr,fun p hp => ?_,fun p hp => absurd hp (List.not_mem_nil),QA.out,QB.out,fun p hp => ?_,fun p hp => absurd hp (List.not_mem_nil)⟩
  ·obtain rfl := List.mem_singleton.1 hp
   exact x2.2
  ·obtain rfl := List.mem_singleton.1 hp
   have := QA.out;have := QB.out;exact ⟨by show w.heap.size ≠ ra;omega,by show w.heap.size ≠ w1.heap.size;omega⟩)
 obtain ⟨rb,hrb⟩ : ∃ g,w1.heap.size = g := ⟨_,rfl⟩
 rw [hrb] at T2 ⊢;clear rr kk X1 RA RB hrb QA QB o0 o1 o2 o3 o4;obtain ⟨o0,o1,o2,o3,o4⟩ := zEA (T2.out.bx (w.heap.size,_) (List.Mem.head _));go_upto_region 3 with fail
 go_cut [5] from 19 (fun s5 wnew => ∃ bi,s5 = .pointer (some ⟨bi,0,none⟩) ∧ St3 w ra rb xs ys [(bi,opOf kind (.slice (some ⟨ra,0,none⟩) na (na + 80)) (.slice (some ⟨rb,0,none⟩) nb (nb + 80)) W K),(w.heap.size,opOf kind (.slice aa na ca) (.slice ab nb cb) W K)] [] wnew)
 case first =>
  have hna2 : (na : Int) ≤ ((na + 80 : Nat) : Int) := by omega
  have hnb2 : (nb : Int) ≤ ((nb + 80 : Nat) : Int) := by omega
  have hlt2 : w.heap.size < w2.heap.size := by have := T2.out.lt;have := T2.out.qa;have := T2.out.qb;omega
  have hne2 : w.heap.size ≠ w2.heap.size := by omega
  have FIN := hid ((T2.out.box (opOf kind (.slice (some ⟨ra,0,none⟩) na (na + 80)) (.slice (some ⟨rb,0,none⟩) nb (nb + 80)) W K)).step (Below.refl _ _).drew);clear T2;go_wp2_with fail;go_region;go_wp2_with fail;go_meet;exact ⟨_,rfl,FIN.out⟩
 case rest =>
  obtain ⟨bi,rfl,ht⟩ := hcut;clear T2 o0 o1 o2 o3 o4
  rename World => w3
  have T3 := hid ht;clear ht;go_upto_region 4 with fail
  go_cut [6] from 19 (fun s6 wnew => Ansd w ra rb xs ys [(bi,opOf kind (.slice (some ⟨ra,0,none⟩) na (na + 80)) (.slice (some ⟨rb,0,none⟩) nb (nb + 80)) W K),(w.heap.size,opOf kind (.slice aa na ca) (.slice ab nb cb) W K)] [] S1 w3.heap.size s6 wnew)
  case first =>
   obtain ⟨o0,o1,o2,o3,o4⟩ := zEA (T3.out.bx (w.heap.size,_) (by repeat (first | exact List.Mem.head _ | apply List.Mem.tail)));go_wp2_with fail;refine (CAL.out.2.1 w3 _ _ (HA.out.now T3.out.be) (HB.out.now T3.out.be)).mono ?_;rintro e wc ⟨qs,rs,r1,n1,e1,hs,vq,vr,rfl,oq,or_,tw,kk⟩;obtain ⟨aq,cq,rfl⟩ := oq.form;obtain ⟨ar,cr,rfl⟩ := or_.form;have FIN := hid (zBD T3.out hs oq or_ tw kk);clear kk oq or_ tw hs T3 o0 o1 o2 o3 o4;go_wp2_with fail;go_meet;exact FIN.out
  case rest =>
   obtain ⟨bw,a1w,a2w,c1w,c2w,qsw,rsw,rw,nw,ew,rfl,hsw,tww,low,hiw,ht⟩ := hcut
   rename World => ww
   have Tw := hid ht;have TWw := hid tww;have HSw := hid hsw;have LOw := hid low;have HIw := hid hiw;have CHw : Hid (rb < w3.heap.size) := hid T3.out.lt;clear ht T3 tww hsw low hiw;obtain ⟨lw,hlw⟩ : ∃ b,w3.heap.size = b := ⟨_,rfl⟩
   rw [hlw] at Tw LOw CHw;clear hlw;replace HIw := hid (Nat.lt_of_lt_of_le HIw.out (Nat.le_refl _));go_upto_region 5 with fail
   go_cut [7] from 19 (fun s7 wnew => ∃ c6 c7 bo,s7 = .pointer (some ⟨bo,0,none⟩) ∧ St3 w ra rb xs ys [(bo,opOf kind (.slice (some ⟨c6,0,none⟩) 2 2) (.slice (some ⟨c7,0,none⟩) 1 1) 5 2),(c7,.cells #[.int .u64 4] 26),(c6,.cells #[.int .u64 6,.int .u64 1] 26),(bw,zKA (.slice a1w qsw.length c1w) (.slice a2w rsw.length c2w) rw nw ew),(bi,opOf kind (.slice (some ⟨ra,0,none⟩) na (na + 80)) (.slice (some ⟨rb,0,none⟩) nb (nb + 80)) W K),(w.heap.size,opOf kind (.slice aa na ca) (.slice ab nb cb) W K)] [(lw,bw,.slice a1w qsw.length c1w,qsw),(lw,bw,.slice a2w rsw.length c2w,rsw)] wnew)
   case first =>
    have ho5 := oth_box Tw.out kind _ rfl;have FIN := hid ho5;obtain ⟨o0,o1,o2,o3,o4⟩ := zEA (Tw.out.bx (w.heap.size,_) (by repeat (first | exact List.Mem.head _ | apply List.Mem.tail)));clear ho5 Tw;go_wp2_with fail;go_meet;exact ⟨_,_,_,rfl,FIN.out⟩
   case rest =>
    obtain ⟨c6,c7,bo,rfl,ht⟩ := hcut;clear Tw
    rename World => w5
    have T5 := hid ht;clear ht;go_upto_region 6 with fail
    go_cut [8] from 19 (fun s8 wnew => Ansd w ra rb xs ys [(bo,opOf kind (.slice (some ⟨c6,0,none⟩) 2 2) (.slice (some ⟨c7,0,none⟩) 1 1) 5 2),(c7,.cells #[.int .u64 4] 26),(c6,.cells #[.int .u64 6,.int .u64 1] 26),(bw,zKA (.slice a1w qsw.length c1w) (.slice a2w rsw.length c2w) rw nw ew),(bi,opOf kind (.slice (some ⟨ra,0,none⟩) na (na + 80)) (.slice (some ⟨rb,0,none⟩) nb (nb + 80)) W K),(w.heap.size,opOf kind (.slice aa na ca) (.slice ab nb cb) W K)] [(lw,bw,.slice a1w qsw.length c1w,qsw),(lw,bw,.slice a2w rsw.length c2w,rsw)] S1 w5.heap.size s8 wnew)
    case first =>
     obtain ⟨i0,i1,i2,i3,i4⟩ := zEA (T5.out.bx (bi,_) (by repeat (first | exact List.Mem.head _ | apply List.Mem.tail)));go_wp2_with fail;refine (CAL.out.2.2 w5 _ _ (T5.out.ma.part WX.out HNA.out (by omega)) (T5.out.mb.part WY.out HNB.out (by omega))).mono ?_;rintro e wc ⟨qs,rs,r1,n1,e1,hs,vq,vr,rfl,oq,or_,tw,kk⟩;obtain ⟨aq,cq,rfl⟩ := oq.form;obtain ⟨ar,cr,rfl⟩ := or_.form;have FIN := hid (zBD T5.out hs oq or_ tw kk);clear kk oq or_ tw hs T5 i0 i1 i2 i3 i4;go_wp2_with fail;go_meet;exact FIN.out
    case rest =>
     obtain ⟨bx,a1x,a2x,c1x,c2x,qsx,rsx,rx,nx,ex,rfl,hsx,twx,lox,hix,ht⟩ := hcut
     rename World => wx
     have Tx := hid ht;have TWx := hid twx;have HSx := hid hsx;have LOx := hid lox;have HIx := hid hix;have CHx : Hid (bw < w5.heap.size) := hid (T5.out.blt (p := (bw,_)) (by repeat (first | exact List.Mem.head _ | apply List.Mem.tail)));clear ht T5 twx hsx lox hix;obtain ⟨lx,hlx⟩ : ∃ b,w5.heap.size = b := ⟨_,rfl⟩
     rw [hlx] at Tx LOx CHx;clear hlx;replace HIx := hid (Nat.lt_of_lt_of_le HIx.out (Nat.le_refl _));go_upto_region 7 with fail
     go_cut [9] from 19 (fun s9 wnew => Ansd w ra rb xs ys [(bx,zKA (.slice a1x qsx.length c1x) (.slice a2x rsx.length c2x) rx nx ex),(bo,opOf kind (.slice (some ⟨c6,0,none⟩) 2 2) (.slice (some ⟨c7,0,none⟩) 1 1) 5 2),(c7,.cells #[.int .u64 4] 26),(c6,.cells #[.int .u64 6,.int .u64 1] 26),(bw,zKA (.slice a1w qsw.length c1w) (.slice a2w rsw.length c2w) rw nw ew),(bi,opOf kind (.slice (some ⟨ra,0,none⟩) na (na + 80)) (.slice (some ⟨rb,0,none⟩) nb (nb + 80)) W K),(w.heap.size,opOf kind (.slice aa na ca) (.slice ab nb cb) W K)] [(lx,bx,.slice a1x qsx.length c1x,qsx),(lx,bx,.slice a2x rsx.length c2x,rsx),(lw,bw,.slice a1w qsw.length c1w,qsw),(lw,bw,.slice a2w rsw.length c2w,rsw)] S1 wx.heap.size s9 wnew)
     case first =>
      obtain ⟨i0,i1,i2,i3,i4⟩ := zEA (Tx.out.bx (bi,_) (by repeat (first | exact List.Mem.head _ | apply List.Mem.tail)));go_wp2_with fail;refine (CAL.out.2.2 wx _ _ (Tx.out.ma.part WX.out HNA.out (by omega)) (Tx.out.mb.part WY.out HNB.out (by omega))).mono ?_;rintro e wc ⟨qs,rs,r1,n1,e1,hs,vq,vr,rfl,oq,or_,tw,kk⟩;obtain ⟨aq,cq,rfl⟩ := oq.form;obtain ⟨ar,cr,rfl⟩ := or_.form;have FIN := hid (zBD Tx.out hs oq or_ tw kk);clear kk oq or_ tw hs Tx i0 i1 i2 i3 i4;go_wp2_with fail;go_meet;exact FIN.out
     case rest =>
      obtain ⟨byy,a1yy,a2yy,c1yy,c2yy,qsyy,rsyy,ryy,nyy,eyy,rfl,hsyy,twyy,loyy,hiyy,ht⟩ := hcut
      rename World => wyy
      have Tyy := hid ht;have TWyy := hid twyy;have HSyy := hid hsyy;have LOyy := hid loyy;have HIyy := hid hiyy;have CHyy : Hid (bx < wx.heap.size) := hid (Tx.out.blt (p := (bx,_)) (by repeat (first | exact List.Mem.head _ | apply List.Mem.tail)));clear ht Tx twyy hsyy loyy hiyy;obtain ⟨lyy,hlyy⟩ : ∃ b,wx.heap.size = b := ⟨_,rfl⟩
      rw [hlyy] at Tyy LOyy CHyy;clear hlyy;replace HIyy := hid (Nat.lt_of_lt_of_le HIyy.out (Nat.le_refl _))
      rename_i hK
      refine hK _ _ ?_;exact keeps_2 la lb CAL CA2 CA3 CA4 LN1 LN2 LN3 WX WY HNA HNB HA HB TWw HSw CHw LOw TWx HSx CHx LOx TWyy HSyy CHyy LOyy Tyy
theorem divnatMemory_any {w : World} {va vb : Value} {xs ys : List Int} {K : Int} (ha : Sl w.heap.size w va xs) (hb : Sl w.heap.size w vb ys) (la : xs.length ≤ 1048576) (lb : ys.length ≤ 1048576) (hK : -9223372036854775808 ≤ K ∧ K ≤ 9223372036854775807) :
  Calls Try.prog 4 #[va,vb,.int .i64 K] w fun e w' => e = .returned (.bool true) ∧ Below w.heap.size w w' := by
 have HA := hid ha;have HB := hid hb;have HK := hid hK;have LA := hid la;have LB := hid lb;obtain ⟨aa,ca,rfl⟩ : ∃ a c,va = .slice a xs.length c := by obtain ⟨_,a,c,e,_⟩ := ha;exact ⟨a,c,e⟩
 have hb' := hb;obtain ⟨hwf,ab,cb,rfl,hcap,hmax,hcells⟩ := hb';have HC := hid hcells;have HW := hid hwf;clear ha hb hK la lb hcap hmax hcells hwf;obtain ⟨na,hna⟩ : ∃ n,xs.length = n := ⟨_,rfl⟩
 obtain ⟨nb,hnb⟩ : ∃ n,ys.length = n := ⟨_,rfl⟩
 have HNB := hid hnb;rw [hna] at HA ⊢;rw [hnb] at HB ⊢;clear hna hnb;go_enter Try.func4,Try.ntmps4;go_wp2_with fail;refine (wakes3_any _).mono ?_;rintro e w1 ⟨rfl,k1⟩;have K1 := hid k1;clear k1;go_upto_if 14 with fail
 go_cut [7] from 8 (fun s7 wx => (∃ W,s7 = .int .u64 W ∧ IsW W) ∧ Below w.heap.size w wx)
 case first =>
  by_cases hlt : 0 < nb
  ·have hl0 : 0 < ys.length := by rw [HNB.out];exact hlt
   rcases HC.out with e | ⟨b,off,rfl,hbg,hc⟩
   ·subst e;simp at hl0
   have hc0 := (K1.out.cell (p := ⟨b,off + 0,none⟩) hbg).trans (hc 0 hl0);rw [Nat.add_zero] at hc0;have HY := hid (HW.out _ (List.getElem_mem hl0));generalize ys[0] = y at *;have hlt' : (0 : Int) < (nb : Int) := by omega
   clear hbg hc hl0;go_wp2_with fail;go_meet;exact ⟨⟨_,rfl,HY.out⟩,K1.out⟩
  ·obtain rfl : nb = 0 := by omega
   go_wp2_with fail;go_meet;exact ⟨⟨_,rfl,by unfold IsW wB;omega⟩,K1.out⟩
 case rest =>
 obtain ⟨⟨W,rfl,hW⟩,hbe⟩ := hcut
 rename World => w2
 have HW2 := hid hW;have BE := hid hbe;clear hW hbe K1 HC HW;go_wp2_with fail
 go_loopw [8] (fun i wr => ∃ k : Nat,1 ≤ k ∧ k ≤ 8 ∧ i = .int .i64 k ∧ Hid (Below w.heap.size w wr)) (fun i _ => 8 - (intOf i).toNat)
 case atStart => exact ⟨1,by omega,by omega,rfl,BE⟩
 case round =>
  clear BE;obtain ⟨k,hk1,hk8,rfl,HBW⟩ := hrel
  by_cases hlt : k ≤ 7
  ·have HR := hid (keeps_any (kind := (k : Int)) (HA.out.now HBW.out) (HB.out.now HBW.out) LA.out LB.out HW2.out HK.out (by omega) (by omega))
   go_wp2_with fail;refine HR.out.mono ?_;rintro e w3 ⟨rfl,k2⟩;have HB2 := hid (zAA HBW.out k2);clear k2 HR HBW;go_wp2;go_roundw
   case rel => exact ⟨k + 1,by omega,by omega,by go_num,HB2⟩
   case measure => first | (simp [intOf];done) | (simp [intOf];omega)
  ·go_wp2
   go_ret;exact ⟨rfl,HBW.out⟩
end Go.Proofs.Ytppddlbkdoebmaa
