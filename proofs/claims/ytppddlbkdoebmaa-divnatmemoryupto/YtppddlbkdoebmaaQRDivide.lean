import Derived.Test.YtppddlbkdoebmaaQHLongToLong3
import Derived.Test.YtppddlbkdoebmaaQDivMod
import Derived.Deep.LoopGhost
set_option maxRecDepth 100000
set_option maxHeartbeats 6400000
set_option linter.unusedVariables false
set_option linter.unusedSimpArgs false
namespace Go.Proofs.Ytppddlbkdoebmaa
open Go.RowKit
def zVD (w : World) (D E : List Int) (e : Ending) (w' : World) : Prop :=
 ∃ qs rs q r,e = .returned (.tuple #[q,r]) ∧ Sl w'.heap.size w' q qs ∧ Sl w'.heap.size w' r rs ∧ zMA qs ∧ zMA rs ∧ hval D = hval E * hval qs + hval rs ∧ hval rs < hval E ∧ qs.length ≤ D.length + 1 ∧ rs.length ≤ D.length + 1 ∧ Below w.heap.size w w'
theorem rdivide_short {w : World} {v u : Value} {D E : List Int} (h : Sl w.heap.size w v D) (h' : Sl w.heap.size w u E) (hD : zMA D) (hE : zMA E) (hl : D.length < E.length) :
  Calls Try.prog 42 #[v,u] w (zVD w D E) := by
 have HS := hid h;have hlt := zWB hD.1 hE.1 (by rw [hD.2,hE.2];exact hl);have HLT := hid hlt;obtain ⟨_,a,cap,rfl,hlc,hcm,hx1⟩ := h;obtain ⟨_,a',cap',rfl,hlc',hcm',hx2⟩ := h';clear hx1 hx2;have HX : Hid (∀ w',w' = w → zVD w D E (.returned (.tuple #[.slice none 0 0,.slice a D.length cap])) w') := fun w' e => by
  subst e;exact ⟨[],D,_,_,rfl,Sl.nil _,HS.out,⟨HF.nil,rfl⟩,hD,by simp [hval],HLT.out,by simp,by omega,Below.refl _ _⟩
 have i1 : (D.length : Int) < (E.length : Int) := by omega
 generalize D.length = n at *;generalize E.length = m at *;go_enter Try.func42,Try.ntmps42;go_wp2;go_ret2;exact HX.out _ rfl
theorem zGG {w : World} {g b : Nat} {zs : List Int} {r : List Value} (h : Row w b (ws zs ++ r)) {n cap : Nat} (hn : n ≤ zs.length) (hl : zs.length ≤ 35184372088832) (hc : n ≤ cap) (hb : b ≠ g) : SlNe g w (.slice (some ⟨b,0,none⟩) n cap) (zs.take n) := by
 have e : (zs.take n).length = n := by rw [List.length_take];omega
 refine ⟨_,cap,by rw [e],by rw [e];exact hc,by rw [e];omega,.inr ⟨b,0,rfl,hb,fun j hj => ?_⟩⟩;rw [e] at hj;rw [Nat.zero_add,h.word (show j < zs.length by omega)]
 simp
theorem rdivide_long {w : World} {v u : Value} {D E : List Int} (h : Sl w.heap.size w v D) (h' : Sl w.heap.size w u E) (hD : zMA D) (hE : zMA E) (hn : E ≠ []) (hl : E.length ≤ D.length) (hlen : D.length ≤ 8796093022208) :
  Calls Try.prog 42 #[v,u] w (zVD w D E) := by
 have HSD := hid h;have HSE := hid h';have HCD := hid hD;have HCE := hid hE;obtain ⟨_,a,cap,rfl,hlc,hcm,_⟩ := h;obtain ⟨_,a',cap',rfl,hlc',hcm',hm'⟩ := h';rcases hm' with e | ⟨b,off,rfl,hbB,hcell⟩
 ·exact absurd e hn
 obtain ⟨N,hN⟩ : ∃ N,E.length = N + 1 := ⟨E.length - 1,by have := Nat.pos_of_ne_zero (fun e => hn (List.eq_nil_of_length_eq_zero e));omega⟩
 obtain ⟨m,hm⟩ : ∃ m,D.length = m + (N + 1) := ⟨D.length - (N + 1),by omega⟩
 obtain ⟨ht,hne⟩ := zSC (xs := E) (n := N) (by rw [← hN];exact hE.2);have htw := hE.1.get ht;have ct := hcell N ht;have htb : 1 ≤ E[N] ∧ E[N] < 4294967296 := by unfold IsH hwB at htw;omega
 have HMAX : Hid (hval D < hpw (m + (N + 1)) ∧ hpw N ≤ hval E) := by
  refine ⟨by rw [← hm];exact zVA hD.1,?_⟩;have e := zQA E N ht;rw [← hN,List.take_length] at e;have a1 := zDA (hE.1.take N);have a2 := Int.mul_le_mul_of_nonneg_right htb.1 (Int.le_of_lt (zcA N));rw [Int.one_mul] at a2;omega
 obtain ⟨tb,htbe⟩ : ∃ tb,E[N] = tb := ⟨_,rfl⟩
 rw [htbe] at htb ct;obtain ⟨tb0,tb1⟩ := htb;rw [hm] at hlc hcm HSD;rw [hN] at hlc' hcm' HSE;rw [hN,hm];have HM := hid hm;have HN := hid hN;have lm : m + (N + 1) ≤ 8796093022208 := by omega
 have i1 : ¬ ((m + (N + 1) : Nat) : Int) < ((N + 1 : Nat) : Int) := by omega
 clear hcell hl hlen hm hN htbe hne htw hD hE hn;go_enter Try.func42,Try.ntmps42;go_wp2_with fail
 go_loopw [6] (fun s6 wx => ∃ f : Int,s6 = .int .u64 f ∧ 1 ≤ f ∧ Hid (tb * f < 4294967296) ∧ wx = w) (fun s6 _ => (4294967296 - intOf s6).toNat)
 case atStart => exact ⟨1,rfl,by omega,by unfold Hid;omega,rfl⟩
 case round =>
  obtain ⟨f,rfl,hf0,HF1,rfl⟩ := hrel;have hf1 : f < 4294967296 := by
   have a1 := HF1.out;have a2 := Int.mul_le_mul_of_nonneg_right tb0 (show 0 ≤ f by omega);rw [Int.one_mul] at a2;omega
  obtain ⟨p,hp⟩ : ∃ p,tb * f = p := ⟨_,rfl⟩
  have hp1 := HF1.out;have hp2 : f ≤ p := by
   have a2 := Int.mul_le_mul_of_nonneg_right tb0 (show 0 ≤ f by omega);rw [Int.one_mul] at a2;omega
  rw [hp] at hp1;have HP := hid hp
  by_cases hlt : p < 2147483648
  ·have HF2 : Hid (tb * (2 * f) < 4294967296) := by unfold Hid;rw [Int.mul_left_comm,HP.out];omega
   clear HF1 HP;go_wp2_with fail;go_roundw
   case rel => exact ⟨2 * f,by go_num,by omega,HF2,by first | rfl | trivial⟩
   case measure => simp [intOf];omega
  ·clear HF1 HP
   have HSC := hid (zaC HSD.out HCD.out.1 (show 0 ≤ f by omega) hf1 (by have := HM.out;omega));rw [HM.out] at HSC;go_wp2_with fail;refine HSC.out.mono ?_;rintro e w1 ⟨R0,rfl,hR0l,hR0f,hR0v,hR0r,b1⟩;have HSC2 := hid (zaC (HSE.out.now b1) HCE.out.1 (show 0 ≤ f by omega) hf1 (by have := HN.out;omega));rw [HN.out] at HSC2;have R0R := hid hR0r;have B1 := hid b1;have hg1 : wr.heap.size < w1.heap.size := hR0r.lt;clear HSC hR0r b1;go_wp2_with fail;refine HSC2.out.mono ?_;rintro e w2 ⟨T,rfl,hTl,hTf,hTv,hTr,b2⟩;have hg2 : w1.heap.size < w2.heap.size := hTr.lt;have hsT := zcD (r := []) (by simpa using hTr) hTf.word (cap := N + 2) (by omega) (by omega) (B := w2.heap.size) hg2;rw [hTl] at hsT;have HTR := hid (zZA hsT);have hds : zMA (lst T) := hcanon_lst' hTf;have hdv : hval (lst T) = f * hval E := by rw [hval_lst',hTv]
   have hEp : 0 < hval E := by have := HMAX.out.2;have := zcA N;omega
   have hdp : 0 < hval (lst T) := by rw [hdv];exact Int.mul_pos (by omega) hEp
   have hwT : wid T ≠ 0 := fun e => by
    have : lst T = [] := List.eq_nil_of_length_eq_zero (by rw [length_lst];exact e);rw [this] at hdp;simp [hval] at hdp
   obtain ⟨kd,hkd⟩ : ∃ kd,wid T = kd + 1 := ⟨wid T - 1,by omega⟩
   have hkl : kd + 1 ≤ N + 2 := by rw [← hkd,← hTl];exact zIA T
   have hdl : (lst T).length = kd + 1 := by rw [length_lst];exact hkd
   have SD0 := hid (zGG (g := wr.heap.size) (r := []) (by simpa using hTr) (n := wid T) (cap := N + 2) (zIA T) (by omega) (by omega) (by omega))
   change Hid (SlNe wr.heap.size w2 (.slice (some ⟨w1.heap.size,0,none⟩) (wid T) (N + 2)) (lst T)) at SD0
   have SL0 := hid (zkB hsT);rw [hkd] at HTR SD0 SL0;have RT := hid hTr;have R1R := hid (R0R.out.below b2 hg1);have B2 := hid b2;have hdt := hds.1.get (show kd < (lst T).length by omega);unfold IsH hwB at hdt;have cdt : w2.cell? ⟨w1.heap.size,kd,none⟩ = some (.int .u64 ((lst T)[kd]'(by omega))) := by
    have := Row.word (r := []) (by simpa using hTr) (show kd < T.length by omega);rw [this,zHC (by omega)]
   obtain ⟨dt,hdte⟩ : ∃ dt,(lst T)[kd]'(by omega) = dt := ⟨_,rfl⟩
   rw [hdte] at cdt hdt;have HDT0 := hid hdte;obtain ⟨dt0,dt1⟩ := hdt;clear HSC2 hTr b2 R0R hsT hdte;go_wp2_with fail;refine HTR.out.mono ?_;rintro e w2' ⟨rfl,rfl⟩;clear HTR;go_wp2_with (at_make;refine wpList_make_words _ rfl _ _ rfl _ _ (m + 1) (m + 1) rfl rfl (by first | rfl | omega | (simp;omega)) (by first | rfl | omega | (simp;omega)) (Nat.le_refl _) (by omega) ?_)
   intro w3 hrow3 hb3 hsz3;have cdt3 : w3.cell? ⟨w1.heap.size,kd,none⟩ = some (.int .u64 dt) := (hb3.cell (p := ⟨w1.heap.size,kd,none⟩) hg2).trans cdt;obtain ⟨w0,hw0⟩ : ∃ w0,wr = w0 := ⟨_,rfl⟩
   have HW0 := hid hw0;rw [hw0] at hg1 SD0 B1 R1R;obtain ⟨ds,hdse⟩ : ∃ ds,lst T = ds := ⟨_,rfl⟩
   have HDS := hid hds;have HDV := hid hdv;have HKD := hid hdl;rw [hdse] at HDS HDV HKD hdp SD0 SL0;have HDT : Hid (ds.getD kd 0 = dt) := by
    unfold Hid;subst hdse;rw [zlD (show kd < (lst T).length by omega)];exact HDT0.out
   have HTD : Hid (ds = T.take (kd + 1) ∧ T.length = N + 2 ∧ HF T) := ⟨by rw [← hdse,lst,hkd],hTl,hTf⟩
   have R3R := hid (R1R.out.below hb3 (by omega));have R3D := hid (RT.out.below hb3 hg2);have SD3 : Hid (SlNe w0.heap.size w3 (.slice (some ⟨w1.heap.size,0,none⟩) (kd + 1) (N + 2)) ds) := by
    obtain ⟨a1,a2,a3,a4,a5,a6⟩ := SD0.out;refine ⟨a1,a2,a3,a4,a5,?_⟩;rcases a6 with a6 | ⟨b1,o1,a7,a8,a9⟩
    ·exact .inl a6
    ·refine .inr ⟨b1,o1,a7,a8,fun j hj => ?_⟩
     have hlt := World.block_lt_of_cell? _ _ (a9 j hj);exact (hb3.cell (p := ⟨b1,o1 + j,none⟩) hlt).trans (a9 j hj)
   have SL3 := hid (SL0.out.now hb3);have R3Q := hid hrow3;have BB3 := hid (B1.out.trans ((B2.out.mono (by omega)).trans (hb3.mono (by omega))));have sz3 : w3.heap.size = w2'.heap.size + 1 := hsz3.out;have HLG : Hid (zzD (f * hval D) (m + 1) (m + (N + 1) + 1) ds (List.replicate (m + 1) 0) R0 (m + 1)) := by
    refine ⟨hR0l,hR0f,by simp,zsB _,fun i hi _ => by simp,by rw [zsA,hR0v];omega,?_⟩;have e1 := zwA (zs := R0) (j := m + 1) (by omega);have e2 := zDA (hR0f.take (m + 1));have e3 : hpw (m + 1) * hval (R0.drop (m + 1)) < hpw (m + 1) * (f * hval E) := by
     have a1 : f * hval D < f * hpw (m + (N + 1)) := Int.mul_lt_mul_of_pos_left HMAX.out.1 (by omega);have a2 : f * hpw (m + (N + 1)) = hpw (m + 1) * (f * hpw N) := by rw [show m + (N + 1) = (m + 1) + N by omega,zrB,Int.mul_left_comm]
     have a3 : hpw (m + 1) * (f * hpw N) ≤ hpw (m + 1) * (f * hval E) := Int.mul_le_mul_of_nonneg_left (Int.mul_le_mul_of_nonneg_left HMAX.out.2 (by omega)) (Int.le_of_lt (zcA _));rw [hR0v] at e1;omega
    have e4 := Int.lt_of_mul_lt_mul_left e3 (Int.le_of_lt (zcA _));rw [HDV.out];exact e4
   obtain ⟨gR,hgR⟩ : ∃ gR,w0.heap.size = gR := ⟨_,rfl⟩
   obtain ⟨gD,hgD⟩ : ∃ gD,w1.heap.size = gD := ⟨_,rfl⟩
   obtain ⟨gQ,hgQ⟩ : ∃ gQ,w2'.heap.size = gQ := ⟨_,rfl⟩
   have EGR := hid hgR;rw [hw0,hgR,hgD];rw [hgD] at cdt3 R3D SD3 SL3 hg1 hg2;rw [hgR] at R3R SD3 hg1;rw [hgQ] at R3Q sz3 hg2;rw [hgQ];clear hsz3 hrow3 hb3 hgR hgD hgQ hR0l hR0f hR0v hTl hTf hTv hds hdv hdl hkd hdse SD0 SL0 RT R1R B1 B2 cdt HDT0 HSD HSE hw0;have i5 : (0 : Int) ≤ (kd : Int) := by omega
   go_wp2_with fail
   go_loopg [11] (m + 1) (fun k s11 wx => ∃ Q R : List Int,s11 = .int .i64 ((k : Int) - 1) ∧ k ≤ m + 1 ∧ Hid (zzD (f * hval D) (m + 1) (m + (N + 1) + 1) ds Q R k) ∧ Hid (Row wx gR (ws R)) ∧ Hid (Row wx gD (ws T)) ∧ Hid (Row wx gQ (ws Q)) ∧ Hid (Below w0.heap.size w0 wx) ∧ wx.heap.size = gQ + 1)
   case atStart => exact ⟨_,R0,by go_num,Nat.le_refl _,HLG,R3R,R3D,R3Q,BB3,sz3⟩
   case round =>
    clear HLG R3R R3D R3Q BB3 sz3;obtain ⟨Q,R,rfl,hkm,HL,RR,RD,RQ,BB,sz⟩ := hrel;cases gk with
    | zero =>
     have HWS := hid (zyB.start HL.out.2.1 f);have hRl0 := HL.out.1;rw [hRl0] at HWS;have hfz : (f == 0) = false := by rw [beq_eq_false_iff_ne];omega
     have hfn : ¬ f = 0 := by omega
     go_wp2_with fail
     go_loopw [15,16] (fun c i wx => ∃ (k : Nat) (zs : List Int) (r : Int),k ≤ m + (N + 1) + 1 ∧ i = .int .i64 ((k : Int) - 1) ∧ c = .int .u64 r ∧ 0 ≤ r ∧ r < f ∧ Hid (zyB R zs k f r) ∧ Hid (Row wx gR (ws zs)) ∧ Hid (Row wx gQ (ws Q)) ∧ Hid (Below w0.heap.size w0 wx) ∧ wx.heap.size = gQ + 1) (fun _ i _ => (intOf i + 1).toNat)
     case atStart => exact ⟨m + (N + 1) + 1,R,0,Nat.le_refl _,by go_num,rfl,by omega,by omega,HWS,RR,RQ,BB,sz⟩
     case round =>
      clear HWS RR RQ BB sz RD;obtain ⟨k,zs,r,hk,rfl,rfl,hr0,hr1,HA,RR,RQ,BB,sz⟩ := hrel;have hzl : zs.length = m + (N + 1) + 1 := HA.out.1.trans hRl0
      by_cases hk0 : k = 0
      ·subst hk0
       have hzf := HA.out.2.1;have hql : Q.length = m + 1 := HL.out.2.2.1;have slq := zcD (r := []) (cap := m + 1) (by simpa using RQ.out) HL.out.2.2.2.1.word (by omega) (by omega) (B := wr.heap.size) (by omega);have slz := zcD (r := []) (cap := m + (N + 1) + 1) (by simpa using RR.out) hzf.word (by omega) (by omega) (B := wr.heap.size) (by omega);rw [hql] at slq;rw [hzl] at slz;have HT1 := hid (zZA slq);have HT2 := hid (zZA slz);have SQ := hid (zkB slq);have SZ := hid (zkB slz);have lq := zIA Q;have lz := zIA zs;clear slq slz;go_wp2_with fail;refine HT1.out.mono ?_;rintro e w5 ⟨rfl,rfl⟩;clear HT1;go_wp2_with fail;refine HT2.out.mono ?_;rintro e w6 ⟨rfl,rfl⟩;clear HT2;go_wp2;go_ret2;have n1 := HA.out.done;obtain ⟨_,_,_,_,_,n2,n3⟩ := HL.out;rw [HDV.out] at n2 n3;simp only [List.drop_zero] at n3;have n4 := unscale (show 0 < f by omega) hr0 hr1 n1 n2 n3 (zDA hzf);refine ⟨lst Q,lst zs,_,_,rfl,SQ.out,SZ.out,hcanon_lst' HL.out.2.2.2.1,hcanon_lst' hzf,by rw [hval_lst',hval_lst'];exact n4.1,by rw [hval_lst'];exact n4.2,by rw [length_lst,HM.out];omega,by rw [length_lst,HM.out];omega,by rw [HW0.out];exact BB.out⟩
      ·obtain ⟨j,rfl⟩ : ∃ j,k = j + 1 := ⟨k - 1,by omega⟩
       have hj1 : j < zs.length := by omega
       have hj2 : j < R.length := by omega
       have hzj : zs[j] = R[j] := HA.out.2.2.1 j hj1 hj2 (by omega);have hxw := HL.out.2.1.get hj2;unfold IsH hwB at hxw;have c1 : wr.cell? ⟨gR,j,none⟩ = some (.int .u64 R[j]) := by
        have := Row.word (r := []) (by simpa using RR.out) hj1;rw [hzj] at this;exact this
       have cf : wr.frozen? ⟨gR,j,none⟩ = false := RR.out.frozen j;obtain ⟨t0,t1,q1,r1,r2,e1⟩ := hdiv_word hr0 hr1 hxw.1 hxw.2 hf1;have HA' := hid (HA.out.step hj2 q1 e1);obtain ⟨x,hx⟩ : ∃ x,R[j] = x := ⟨_,rfl⟩
       rw [hx] at c1 t0 t1 q1 r1 r2 HA' hxw;obtain ⟨hx0,hx1⟩ := hxw;obtain ⟨qd,eqd⟩ : ∃ qd,(r * 4294967296 + x) / f = qd := ⟨_,rfl⟩
       obtain ⟨rd,erd⟩ : ∃ rd,(r * 4294967296 + x) % f = rd := ⟨_,rfl⟩
       have etd : (r * 4294967296 + x).tdiv f = qd := by rw [Int.tdiv_eq_ediv_of_nonneg t0];exact eqd
       have etm : (r * 4294967296 + x).tmod f = rd := by rw [Int.tmod_eq_emod_of_nonneg t0];exact erd
       rw [eqd] at q1;rw [erd] at r1 r2;rw [eqd,erd] at HA';unfold IsH hwB at q1;obtain ⟨q10,q11⟩ := q1;have oq := (Only.refl gR wr).set j (.int .u64 qd);have RR2 : Hid (Row (wr.setCell ⟨gR,j,none⟩ (.int .u64 qd)) gR (ws (zs.set j qd))) := by
        have := Row.setWord (r := []) (by simpa using RR.out) hj1 qd;unfold Hid;simpa using this
       have RQ2 := hid (oq.row (by omega) RQ.out);have BB2 := hid (BB.out.setCell (p := ⟨gR,j,none⟩) (Nat.le_of_eq EGR.out) (.int .u64 qd));have sz2 := oq.1.trans sz;have ej : ((j + 1 : Nat) : Int) - 1 = (j : Int) := by omega
       have i6 : (0 : Int) ≤ (j : Int) := by omega
       clear hzj HA hj1 e1 RR RQ BB oq hx;go_wp2;go_roundw
       case rel => exact ⟨j,_,rd,by omega,by go_num,by go_num,r1,r2,HA',RR2,RQ2,BB2,sz2⟩
       case measure => simp [intOf]
    | succ j =>
     have hjM : j < m + 1 := by omega
     have HIN := hid (HL.out.in hjM (by omega));clear HL;have ej : ((j + 1 : Nat) : Int) - 1 = (j : Int) := by omega
     rw [ej];go_wp2_with fail
     go_loopg [13] (hval R).toNat (fun g s13 wx => ∃ Q R : List Int,(g : Int) = hval R ∧ Hid (zzB (f * hval D) (m + 1) (m + (N + 1) + 1) ds Q R j) ∧ Hid (Row wx gR (ws R)) ∧ Hid (Row wx gD (ws T)) ∧ Hid (Row wx gQ (ws Q)) ∧ Hid (Below w0.heap.size w0 wx) ∧ wx.heap.size = gQ + 1)
     case atStart => exact ⟨Q,R,Int.toNat_of_nonneg (zDA HIN.out.2.1),HIN,RR,RD,RQ,BB,sz⟩
     case round =>
      clear HIN RR RD RQ BB sz;obtain ⟨Q,R,hgk,HI,RR,RD,RQ,BB,sz⟩ := hrel;have hRl : R.length = m + (N + 1) + 1 := HI.out.1;have HRL := hid hRl;have hQl : Q.length = m + 1 := HI.out.2.2.1;have HGK := hid hgk;clear hgk;have hjk : j + kd < m + (N + 1) + 1 := by omega
      have SD : Hid (SlNe gR wr (.slice (some ⟨gD,0,none⟩) (kd + 1) (N + 2)) ds) := by
       have := zGG (g := gR) (r := []) (by simpa using RD.out) (n := kd + 1) (cap := N + 2) (by rw [HTD.out.2.1];omega) (by rw [HTD.out.2.1];omega) (by omega) (by omega);rw [← HTD.out.1] at this;exact this
      have SLD : Hid (Sl wr.heap.size wr (.slice (some ⟨gD,0,none⟩) (kd + 1) (N + 2)) ds) := by
       have := zeF (j := 0) (n := kd + 1) (cap := N + 2) (r := []) (by simpa using RD.out) HTD.out.2.2.word (by rw [HTD.out.2.1];omega) (by omega) (by omega) (B := wr.heap.size) (by omega);rw [List.drop_zero,← HTD.out.1] at this;exact this
      have c0 : wr.cell? ⟨gR,j + kd,none⟩ = some (.int .u64 (R[j + kd]'(by omega))) := Row.word (r := []) (by simpa using RR.out) (by omega);obtain ⟨z0,hz0⟩ : ∃ z0,R.getD (j + kd) 0 = z0 := ⟨_,rfl⟩
      have HZ0 := hid hz0;rw [← zlD (show j + kd < R.length by omega),hz0] at c0;have z00 := zFD HI.out.2.1 (j + kd);rw [hz0] at z00;obtain ⟨z0a,z0b⟩ := z00;have ek : (j : Int) + ((kd : Int) + 1) - 1 = (j : Int) + (kd : Int) := by omega
      have i6 : (0 : Int) ≤ (j : Int) + (kd : Int) := by omega
      have i7 : (j : Int) + (kd : Int) < (m : Int) + ((N : Int) + 1) + 1 := by omega
      have i8 : (0 : Int) ≤ (j : Int) := by omega
      have i9 : (j : Int) < (m : Int) + 1 := by omega
      clear hz0
      by_cases hcase : j + (kd + 1) < m + (N + 1) + 1
      ·have hc : (j : Int) + ((kd : Int) + 1) < (m : Int) + ((N : Int) + 1) + 1 := by omega
       have hc0 : (0 : Int) ≤ (j : Int) + ((kd : Int) + 1) := by omega
       have c1 : wr.cell? ⟨gR,j + (kd + 1),none⟩ = some (.int .u64 (R[j + (kd + 1)]'(by omega))) := Row.word (r := []) (by simpa using RR.out) (by omega);obtain ⟨z1,hz1⟩ : ∃ z1,R.getD (j + kd + 1) 0 = z1 := ⟨_,rfl⟩
       have HZ1 := hid hz1;have hz1' : R[j + (kd + 1)]'(by omega) = z1 := by rw [← zlD (show j + (kd + 1) < R.length by omega)];exact hz1
       rw [hz1'] at c1;have z10 := zFD HI.out.2.1 (j + kd + 1);rw [hz1] at z10;obtain ⟨z1a,z1b⟩ := z10;clear hz1 hz1';obtain ⟨nn,en⟩ : ∃ nn,(z0 + z1 * 4294967296) / (dt + 1) = nn := ⟨_,rfl⟩
       have nn0 : 0 ≤ nn := by rw [← en];exact Int.ediv_nonneg (by omega) (by omega)
       have nn1 : nn * (dt + 1) ≤ z0 + z1 * 4294967296 := by rw [← en];exact Int.ediv_mul_le _ (by omega)
       have nn2 : nn ≤ 18446744073709551615 := by
        rw [← en];exact Int.le_trans (Int.ediv_le_self _ (by omega)) (by omega)
       have NN1 := hid nn1;clear nn1;have hfit : nn * hval ds ≤ hval (R.drop j) := by
        refine HI.out.fits HDS.out.1 HKD.out (by omega) (t := z0 + z1 * 4294967296) ?_ nn0 (by rw [← zlD (show kd < ds.length by rw [HKD.out];omega),HDT.out];exact NN1.out);rw [HZ0.out,HZ1.out];omega
       have HFIT := hid hfit;clear hfit;have htd : (z0 + z1 * 4294967296).tdiv (dt + 1) = nn := by rw [Int.tdiv_eq_ediv_of_nonneg (by omega)];exact en
       by_cases hn0 : nn = 0
       ·subst hn0
        have hz : ((0 : Int) == 0) = true := rfl;have SLR := zcD (cap := m + (N + 1) + 1) (r := []) (by simpa using RR.out) HI.out.2.1.word (by omega) (by omega) (B := wr.heap.size) (by omega);rw [hRl] at SLR;have HGO := hid (zFF (cap := 0) (s := j) SLR SLD.out HI.out.2.1 HDS.out.1 (by rw [hRl,HKD.out];omega) (HI.out.above HDS.out.1))
        by_cases hge : hval ds ≤ hval (R.drop j)
        ·rw [decide_eq_true hge] at HGO
         have h1f : (1 : Int) * hval ds ≤ hval (R.drop j) := by omega
         have H1F := hid h1f;clear SLR h1f hge HFIT;go_wp2_with fail;refine HGO.out.mono ?_;rintro e w5 ⟨rfl,nd,rfl⟩;clear HGO;obtain ⟨WW,hWW⟩ : ∃ WW,wr.drewN nd = WW := ⟨_,rfl⟩
         rw [hWW];have RR := hid (show Row WW gR (ws R) by rw [← hWW];exact RR.out);have RD := hid (show Row WW gD (ws T) by rw [← hWW];exact RD.out);have RQ := hid (show Row WW gQ (ws Q) by rw [← hWW];exact RQ.out);have SD := hid (show SlNe gR WW (.slice (some ⟨gD,0,none⟩) (kd + 1) (N + 2)) ds by rw [← hWW];exact SD.out);have BW := hid (show Below w0.heap.size wr WW by rw [← hWW];exact below_drewN (Below.refl _ _) nd);have SW : WW.heap.size = gQ + 1 := by rw [← hWW];exact sz
         clear hWW;obtain ⟨nw,q0,q1⟩ := HI.out.word HDS.out.1 hjM hdp (by omega) H1F.out;have HTO := hid (zGB (g := gR) (r := []) (cap := m + (N + 1) + 1) (s := j) HI.out.2.1 (by simpa using RR.out) SD.out HDS.out.1 (show 0 ≤ 1 by omega) nw (by rw [hRl,HKD.out];omega) (by rw [hRl];omega) (HI.out.off (by omega) H1F.out));rw [hRl] at HTO;have hjQ : j < Q.length := by omega
         have cq : ∀ wy,Only gR WW wy → wy.cell? ⟨gQ,j,none⟩ = some (.int .u64 Q[j]) := fun wy ho => Row.word (r := []) (by simpa using ho.row (by omega) RQ.out) hjQ
         have cqf : ∀ wy,Only gR WW wy → wy.frozen? ⟨gQ,j,none⟩ = false := fun wy ho => (ho.row (by omega) RQ.out).frozen j
         have HSTEP := hid (fun (R2 : List Int) a1 a2 a3 => HI.out.step (R2 := R2) HDS.out.1 hjM (by omega) hdp (Int.le_refl 1) H1F.out a1 a2 a3);obtain ⟨qj,hqj⟩ : ∃ qj,Q[j] = qj := ⟨_,rfl⟩
         have HQJ := hid hqj;simp only [hqj] at cq q0 q1 HSTEP;have HRS := hid HI.out.2.1;clear hqj HI;go_wp2_with fail;refine HTO.out.mono ?_;rintro e w6 ⟨R2,rfl,hl2,hf2,hv2,hr2,hb2,ho2⟩;have cq6 := cq w6 ho2;have cqf6 := cqf w6 ho2;obtain ⟨hI2,hdec⟩ := HSTEP.out R2 (hl2.trans HRL.out.symm) hf2 hv2;have HI2 := hid hI2;have RR2 : Hid (Row w6 gR (ws R2)) := by unfold Hid;simpa using hr2
         have oq := (Only.refl gQ w6).set j (.int .u64 (qj + 1));have RR3 := hid (oq.row (by omega) RR2.out);have RD3 := hid (oq.row (by omega) (ho2.row (by omega) RD.out));have RQ3 : Hid (Row (w6.setCell ⟨gQ,j,none⟩ (.int .u64 (qj + 1))) gQ (ws (Q.set j (qj + 1)))) := by
          have := Row.setWord (r := []) (by simpa using ho2.row (by omega) RQ.out) hjQ (qj + 1);unfold Hid;simpa using this
         have BB3 := hid ((BB.out.trans (BW.out.trans (hb2.mono (Nat.le_of_eq EGR.out)))).setCell (p := ⟨gQ,j,none⟩) (by have := EGR.out;show w0.heap.size ≤ gQ;omega) (.int .u64 (qj + 1)));have sz3 := (oq.1.trans ho2.1).trans SW;have hg2 := zDA hf2;have HG2 : Hid (((hval R2).toNat : Int) = hval R2 ∧ (hval R2).toNat < gk) := by
          have := HGK.out;exact ⟨Int.toNat_of_nonneg hg2,by omega⟩
         clear HTO HSTEP hl2 hf2 hv2 hr2 hb2 ho2 hI2 hdec oq RR2 RR RD RQ BB cq cqf HRS HGK hg2 BW;go_wp2_with fail;go_roundg (hval R2).toNat
         case rel => exact ⟨Q.set j (qj + 1),R2,HG2.out.1,HI2,RR3,RD3,RQ3,BB3,sz3⟩
         case measure => exact HG2.out.2
        ·rw [decide_eq_false hge] at HGO
         have HN2 := hid (HI.out.next hge);clear SLR hge HFIT;go_wp2_with fail;refine HGO.out.mono ?_;rintro e w5 ⟨rfl,nd,rfl⟩;clear HGO;go_wp2_with fail;go_roundg j
         case rel => exact ⟨Q,R,by go_num,by omega,HN2,RR.out.drewN nd,RD.out.drewN nd,RQ.out.drewN nd,below_drewN BB.out nd,sz⟩
         case measure => omega
       ·have hz : (nn == 0) = false := by rw [beq_eq_false_iff_ne];exact hn0
        have BW := hid (Below.refl w0.heap.size wr);have SW := sz;obtain ⟨nw,q0,q1⟩ := HI.out.word HDS.out.1 hjM hdp (by omega) HFIT.out;have HTO := hid (zGB (g := gR) (r := []) (cap := m + (N + 1) + 1) (s := j) HI.out.2.1 (by simpa using RR.out) SD.out HDS.out.1 (show 0 ≤ nn by omega) nw (by rw [hRl,HKD.out];omega) (by rw [hRl];omega) (HI.out.off (by omega) HFIT.out));rw [hRl] at HTO;have hjQ : j < Q.length := by omega
        have cq : ∀ wy,Only gR wr wy → wy.cell? ⟨gQ,j,none⟩ = some (.int .u64 Q[j]) := fun wy ho => Row.word (r := []) (by simpa using ho.row (by omega) RQ.out) hjQ
        have cqf : ∀ wy,Only gR wr wy → wy.frozen? ⟨gQ,j,none⟩ = false := fun wy ho => (ho.row (by omega) RQ.out).frozen j
        have HSTEP := hid (fun (R2 : List Int) a1 a2 a3 => HI.out.step (R2 := R2) HDS.out.1 hjM (by omega) hdp (by omega) HFIT.out a1 a2 a3);obtain ⟨qj,hqj⟩ : ∃ qj,Q[j] = qj := ⟨_,rfl⟩
        have HQJ := hid hqj;simp only [hqj] at cq q0 q1 HSTEP;have HRS := hid HI.out.2.1;clear hqj HI;go_wp2_with fail;refine HTO.out.mono ?_;rintro e w6 ⟨R2,rfl,hl2,hf2,hv2,hr2,hb2,ho2⟩;have cq6 := cq w6 ho2;have cqf6 := cqf w6 ho2;obtain ⟨hI2,hdec⟩ := HSTEP.out R2 (hl2.trans HRL.out.symm) hf2 hv2;have HI2 := hid hI2;have RR2 : Hid (Row w6 gR (ws R2)) := by unfold Hid;simpa using hr2
        have oq := (Only.refl gQ w6).set j (.int .u64 (qj + nn));have RR3 := hid (oq.row (by omega) RR2.out);have RD3 := hid (oq.row (by omega) (ho2.row (by omega) RD.out));have RQ3 : Hid (Row (w6.setCell ⟨gQ,j,none⟩ (.int .u64 (qj + nn))) gQ (ws (Q.set j (qj + nn)))) := by
         have := Row.setWord (r := []) (by simpa using ho2.row (by omega) RQ.out) hjQ (qj + nn);unfold Hid;simpa using this
        have BB3 := hid ((BB.out.trans (BW.out.trans (hb2.mono (Nat.le_of_eq EGR.out)))).setCell (p := ⟨gQ,j,none⟩) (by have := EGR.out;show w0.heap.size ≤ gQ;omega) (.int .u64 (qj + nn)));have sz3 := (oq.1.trans ho2.1).trans SW;have hg2 := zDA hf2;have HG2 : Hid (((hval R2).toNat : Int) = hval R2 ∧ (hval R2).toNat < gk) := by
         have := HGK.out;exact ⟨Int.toNat_of_nonneg hg2,by omega⟩
        clear HTO HSTEP hl2 hf2 hv2 hr2 hb2 ho2 hI2 hdec oq RR2 RR RD RQ BB cq cqf HRS HGK hg2 BW;go_wp2_with fail;go_roundg (hval R2).toNat
        case rel => exact ⟨Q.set j (qj + nn),R2,HG2.out.1,HI2,RR3,RD3,RQ3,BB3,sz3⟩
        case measure => exact HG2.out.2
      ·have hc : ¬ (j : Int) + ((kd : Int) + 1) < (m : Int) + ((N : Int) + 1) + 1 := by omega
       have HZ1 : Hid (R.getD (j + kd + 1) 0 = 0) := by unfold Hid;simp [List.getElem?_eq_none (show R.length ≤ j + kd + 1 by omega)]
       obtain ⟨nn,en⟩ : ∃ nn,(z0) / (dt + 1) = nn := ⟨_,rfl⟩
       have nn0 : 0 ≤ nn := by rw [← en];exact Int.ediv_nonneg (by omega) (by omega)
       have nn1 : nn * (dt + 1) ≤ z0 := by rw [← en];exact Int.ediv_mul_le _ (by omega)
       have nn2 : nn ≤ 18446744073709551615 := by
        rw [← en];exact Int.le_trans (Int.ediv_le_self _ (by omega)) (by omega)
       have NN1 := hid nn1;clear nn1;have hfit : nn * hval ds ≤ hval (R.drop j) := by
        refine HI.out.fits HDS.out.1 HKD.out (by omega) (t := z0) ?_ nn0 (by rw [← zlD (show kd < ds.length by rw [HKD.out];omega),HDT.out];exact NN1.out);rw [HZ0.out,HZ1.out];omega
       have HFIT := hid hfit;clear hfit;have htd : (z0).tdiv (dt + 1) = nn := by rw [Int.tdiv_eq_ediv_of_nonneg (by omega)];exact en
       by_cases hn0 : nn = 0
       ·subst hn0
        have hz : ((0 : Int) == 0) = true := rfl;have SLR := zcD (cap := m + (N + 1) + 1) (r := []) (by simpa using RR.out) HI.out.2.1.word (by omega) (by omega) (B := wr.heap.size) (by omega);rw [hRl] at SLR;have HGO := hid (zFF (cap := 0) (s := j) SLR SLD.out HI.out.2.1 HDS.out.1 (by rw [hRl,HKD.out];omega) (HI.out.above HDS.out.1))
        by_cases hge : hval ds ≤ hval (R.drop j)
        ·rw [decide_eq_true hge] at HGO
         have h1f : (1 : Int) * hval ds ≤ hval (R.drop j) := by omega
         have H1F := hid h1f;clear SLR h1f hge HFIT;go_wp2_with fail;refine HGO.out.mono ?_;rintro e w5 ⟨rfl,nd,rfl⟩;clear HGO;obtain ⟨WW,hWW⟩ : ∃ WW,wr.drewN nd = WW := ⟨_,rfl⟩
         rw [hWW];have RR := hid (show Row WW gR (ws R) by rw [← hWW];exact RR.out);have RD := hid (show Row WW gD (ws T) by rw [← hWW];exact RD.out);have RQ := hid (show Row WW gQ (ws Q) by rw [← hWW];exact RQ.out);have SD := hid (show SlNe gR WW (.slice (some ⟨gD,0,none⟩) (kd + 1) (N + 2)) ds by rw [← hWW];exact SD.out);have BW := hid (show Below w0.heap.size wr WW by rw [← hWW];exact below_drewN (Below.refl _ _) nd);have SW : WW.heap.size = gQ + 1 := by rw [← hWW];exact sz
         clear hWW;obtain ⟨nw,q0,q1⟩ := HI.out.word HDS.out.1 hjM hdp (by omega) H1F.out;have HTO := hid (zGB (g := gR) (r := []) (cap := m + (N + 1) + 1) (s := j) HI.out.2.1 (by simpa using RR.out) SD.out HDS.out.1 (show 0 ≤ 1 by omega) nw (by rw [hRl,HKD.out];omega) (by rw [hRl];omega) (HI.out.off (by omega) H1F.out));rw [hRl] at HTO;have hjQ : j < Q.length := by omega
         have cq : ∀ wy,Only gR WW wy → wy.cell? ⟨gQ,j,none⟩ = some (.int .u64 Q[j]) := fun wy ho => Row.word (r := []) (by simpa using ho.row (by omega) RQ.out) hjQ
         have cqf : ∀ wy,Only gR WW wy → wy.frozen? ⟨gQ,j,none⟩ = false := fun wy ho => (ho.row (by omega) RQ.out).frozen j
         have HSTEP := hid (fun (R2 : List Int) a1 a2 a3 => HI.out.step (R2 := R2) HDS.out.1 hjM (by omega) hdp (Int.le_refl 1) H1F.out a1 a2 a3);obtain ⟨qj,hqj⟩ : ∃ qj,Q[j] = qj := ⟨_,rfl⟩
         have HQJ := hid hqj;simp only [hqj] at cq q0 q1 HSTEP;have HRS := hid HI.out.2.1;clear hqj HI;go_wp2_with fail;refine HTO.out.mono ?_;rintro e w6 ⟨R2,rfl,hl2,hf2,hv2,hr2,hb2,ho2⟩;have cq6 := cq w6 ho2;have cqf6 := cqf w6 ho2;obtain ⟨hI2,hdec⟩ := HSTEP.out R2 (hl2.trans HRL.out.symm) hf2 hv2;have HI2 := hid hI2;have RR2 : Hid (Row w6 gR (ws R2)) := by unfold Hid;simpa using hr2
         have oq := (Only.refl gQ w6).set j (.int .u64 (qj + 1));have RR3 := hid (oq.row (by omega) RR2.out);have RD3 := hid (oq.row (by omega) (ho2.row (by omega) RD.out));have RQ3 : Hid (Row (w6.setCell ⟨gQ,j,none⟩ (.int .u64 (qj + 1))) gQ (ws (Q.set j (qj + 1)))) := by
          have := Row.setWord (r := []) (by simpa using ho2.row (by omega) RQ.out) hjQ (qj + 1);unfold Hid;simpa using this
         have BB3 := hid ((BB.out.trans (BW.out.trans (hb2.mono (Nat.le_of_eq EGR.out)))).setCell (p := ⟨gQ,j,none⟩) (by have := EGR.out;show w0.heap.size ≤ gQ;omega) (.int .u64 (qj + 1)));have sz3 := (oq.1.trans ho2.1).trans SW;have hg2 := zDA hf2;have HG2 : Hid (((hval R2).toNat : Int) = hval R2 ∧ (hval R2).toNat < gk) := by
          have := HGK.out;exact ⟨Int.toNat_of_nonneg hg2,by omega⟩
         clear HTO HSTEP hl2 hf2 hv2 hr2 hb2 ho2 hI2 hdec oq RR2 RR RD RQ BB cq cqf HRS HGK hg2 BW;go_wp2_with fail;go_roundg (hval R2).toNat
         case rel => exact ⟨Q.set j (qj + 1),R2,HG2.out.1,HI2,RR3,RD3,RQ3,BB3,sz3⟩
         case measure => exact HG2.out.2
        ·rw [decide_eq_false hge] at HGO
         have HN2 := hid (HI.out.next hge);clear SLR hge HFIT;go_wp2_with fail;refine HGO.out.mono ?_;rintro e w5 ⟨rfl,nd,rfl⟩;clear HGO;go_wp2_with fail;go_roundg j
         case rel => exact ⟨Q,R,by go_num,by omega,HN2,RR.out.drewN nd,RD.out.drewN nd,RQ.out.drewN nd,below_drewN BB.out nd,sz⟩
         case measure => omega
       ·have hz : (nn == 0) = false := by rw [beq_eq_false_iff_ne];exact hn0
        have BW := hid (Below.refl w0.heap.size wr);have SW := sz;obtain ⟨nw,q0,q1⟩ := HI.out.word HDS.out.1 hjM hdp (by omega) HFIT.out;have HTO := hid (zGB (g := gR) (r := []) (cap := m + (N + 1) + 1) (s := j) HI.out.2.1 (by simpa using RR.out) SD.out HDS.out.1 (show 0 ≤ nn by omega) nw (by rw [hRl,HKD.out];omega) (by rw [hRl];omega) (HI.out.off (by omega) HFIT.out));rw [hRl] at HTO;have hjQ : j < Q.length := by omega
        have cq : ∀ wy,Only gR wr wy → wy.cell? ⟨gQ,j,none⟩ = some (.int .u64 Q[j]) := fun wy ho => Row.word (r := []) (by simpa using ho.row (by omega) RQ.out) hjQ
        have cqf : ∀ wy,Only gR wr wy → wy.frozen? ⟨gQ,j,none⟩ = false := fun wy ho => (ho.row (by omega) RQ.out).frozen j
        have HSTEP := hid (fun (R2 : List Int) a1 a2 a3 => HI.out.step (R2 := R2) HDS.out.1 hjM (by omega) hdp (by omega) HFIT.out a1 a2 a3);obtain ⟨qj,hqj⟩ : ∃ qj,Q[j] = qj := ⟨_,rfl⟩
        have HQJ := hid hqj;simp only [hqj] at cq q0 q1 HSTEP;have HRS := hid HI.out.2.1;clear hqj HI;go_wp2_with fail;refine HTO.out.mono ?_;rintro e w6 ⟨R2,rfl,hl2,hf2,hv2,hr2,hb2,ho2⟩;have cq6 := cq w6 ho2;have cqf6 := cqf w6 ho2;obtain ⟨hI2,hdec⟩ := HSTEP.out R2 (hl2.trans HRL.out.symm) hf2 hv2;have HI2 := hid hI2;have RR2 : Hid (Row w6 gR (ws R2)) := by unfold Hid;simpa using hr2
        have oq := (Only.refl gQ w6).set j (.int .u64 (qj + nn));have RR3 := hid (oq.row (by omega) RR2.out);have RD3 := hid (oq.row (by omega) (ho2.row (by omega) RD.out));have RQ3 : Hid (Row (w6.setCell ⟨gQ,j,none⟩ (.int .u64 (qj + nn))) gQ (ws (Q.set j (qj + nn)))) := by
         have := Row.setWord (r := []) (by simpa using ho2.row (by omega) RQ.out) hjQ (qj + nn);unfold Hid;simpa using this
        have BB3 := hid ((BB.out.trans (BW.out.trans (hb2.mono (Nat.le_of_eq EGR.out)))).setCell (p := ⟨gQ,j,none⟩) (by have := EGR.out;show w0.heap.size ≤ gQ;omega) (.int .u64 (qj + nn)));have sz3 := (oq.1.trans ho2.1).trans SW;have hg2 := zDA hf2;have HG2 : Hid (((hval R2).toNat : Int) = hval R2 ∧ (hval R2).toNat < gk) := by
         have := HGK.out;exact ⟨Int.toNat_of_nonneg hg2,by omega⟩
        clear HTO HSTEP hl2 hf2 hv2 hr2 hb2 ho2 hI2 hdec oq RR2 RR RD RQ BB cq cqf HRS HGK hg2 BW;go_wp2_with fail;go_roundg (hval R2).toNat
        case rel => exact ⟨Q.set j (qj + nn),R2,HG2.out.1,HI2,RR3,RD3,RQ3,BB3,sz3⟩
        case measure => exact HG2.out.2
end Go.Proofs.Ytppddlbkdoebmaa
