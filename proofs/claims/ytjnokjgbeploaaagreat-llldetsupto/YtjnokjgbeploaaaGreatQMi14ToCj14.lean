/-
 QMi14ToCj14: Mi14, Cj14, joined.
-/
import Derived.Test.YtjnokjgbeploaaaGreatQDw14
import Derived.Test.YtjnokjgbeploaaaGreatQCz14ToTm14
import Derived.Test.YtjnokjgbeploaaaGreatQEachM11ToPr12
import Derived.Test.YtjnokjgbeploaaaGreatQEach9ToColsP9

set_option maxRecDepth 100000
set_option maxHeartbeats 6400000
set_option linter.unusedVariables false
set_option linter.unusedSimpArgs false
namespace Go.Proofs.YtjnokjgbeploaaaGreat
open Go.RowKit
def wS (rows cols:List Nat) (n a t:Nat):Nat:=if t∈rows∧ixo rows t<a then cols.getD (ixo rows t) 0 else n+t
def wL (rows cols:List Nat) (m n:Nat):List Nat:=(List.range m).map (wS rows cols n rows.length)
theorem zqG {rows cols:List Nat} {m n t:Nat} (ht:t<m):(wL rows cols m n).getD t 0=wS rows cols n rows.length t:=by simp [wL,ht]
theorem zSH {rows:List Nat} (hr:rows.Nodup) {a:Nat} (ha:a<rows.length):ixo rows (rows.getD a 0)=a:=zgD hr (zrB (zTA ha)) ha (zYB (zTA ha))
theorem wS_put {rows cols:List Nat} {n a t:Nat} (hr:rows.Nodup) (ha:a<rows.length):upF (fun t=>(wS rows cols n a t:Nat)) (rows.getD a 0) (cols.getD a 0:Nat) t=(wS rows cols n (a+1) t:Nat):=by
 show (if t=rows.getD a 0 then ((cols.getD a 0:Nat):Int) else ((wS rows cols n a t:Nat):Int))=((wS rows cols n (a+1) t:Nat):Int)
 by_cases e:t=rows.getD a 0
 ·rw [if_pos e]
  unfold wS;rw [e,zSH hr ha,if_pos ⟨zTA ha,Nat.lt_succ_self a⟩]
 ·rw [if_neg e]
  have:wS rows cols n a t=wS rows cols n (a+1) t:=by
   unfold wS
   by_cases q:t∈rows
   ·have hne:ixo rows t≠a:=fun h=>e (by rw [←h,zYB q])
    by_cases l:ixo rows t<a
    ·rw [if_pos ⟨q,l⟩,if_pos ⟨q,Nat.lt_succ_of_lt l⟩]
    ·rw [if_neg (fun h=>l h.2),if_neg (fun h=>by have:=h.2;omega)]
   ·rw [if_neg (fun h=>q h.1),if_neg (fun h=>q h.1)]
  rw [this]
theorem wL_all {rows cols:List Nat} {m n:Nat} (hr:rows.Nodup) (hc:cols.Nodup) (hl:cols.length=rows.length) (hm:∀x∈rows,x<m) (hn:∀x∈cols,x<n):(wL rows cols m n).length=m∧(wL rows cols m n).Nodup∧(∀x∈wL rows cols m n,x<n+m):=by
 have hin:∀t,t∈rows→wS rows cols n rows.length t=cols.getD (ixo rows t) 0∧wS rows cols n rows.length t<n:=fun t ht=>by
  have e:wS rows cols n rows.length t=cols.getD (ixo rows t) 0:=if_pos ⟨ht,zrB ht⟩;exact ⟨e,by rw [e];exact hn _ (zTA (by rw [hl];exact zrB ht))⟩
 have hout:∀t,t ∉ rows→wS rows cols n rows.length t=n+t:=fun t ht=>if_neg fun h=>ht h.1
 refine ⟨by simp [wL],zlI fun i j hi hj e=>?_,fun x hx=>?_⟩
 ·have hi':i<m:=by simpa [wL] using hi
  have hj':j<m:=by simpa [wL] using hj
  rw [zqG hi',zqG hj'] at e
  by_cases a:i∈rows <;> by_cases b:j∈rows
  ·rw [(hin i a).1,(hin j b).1] at e
   have e2:=zgD hc (by rw [hl];exact zrB a) (by rw [hl];exact zrB b) e;rw [←zYB a,←zYB b,e2]
  ·have:=(hin i a).2
   rw [hout j b] at e;omega
  ·have:=(hin j b).2
   rw [hout i a] at e;omega
  ·rw [hout i a,hout j b] at e
   omega
 ·obtain ⟨t,ht,rfl⟩:=List.mem_map.1 hx
  have ht':t<m:=by simpa using ht
  by_cases a:t∈rows
  ·have:=(hin t a).2;omega
  ·rw [hout t a];omega
theorem wL_minor {A:Nat→Nat→Int} {rows cols:List Nat} {m n:Nat} (hr:rows.Nodup) (hl:cols.length=rows.length) (hm:∀x∈rows,x<m) (hn:∀x∈cols,x<n):dcl A m n (gd (wL rows cols m n))=det rows.length fun a b=>A (rows.getD a 0) (cols.getD b 0) :=
 minor14 hr hm hl hn (fun a ha=>by
  show (wL rows cols m n).getD (rows.getD a 0) 0=_
  rw [zqG (hm _ (zTA ha))];unfold wS;rw [zSH hr ha,if_pos ⟨zTA ha,ha⟩]) (fun p hp hx=>by
  show (wL rows cols m n).getD p 0=_
  rw [zqG hp];exact if_neg fun h=>hx h.1)
def M1H (w:World) (bz gw m n gk:Nat) (s:Value) (wx:World):Prop :=
 ∃i:Nat,s=.int .i64 (i:Int)∧i≤m∧gk=m-i∧Cel wx gw 3 (wf m fun t=>if t<i then ((n+t:Nat):Int) else 0)∧Duo wx bz (.bool false) (.slice none 0 0)∧Below w.heap.size w wx
def M2H (w:World) (bz gw m n:Nat) (rows cols:List Nat) (gk:Nat) (s:Value) (wx:World):Prop :=
 ∃a:Nat,s=.int .i64 (a:Int)∧a≤rows.length∧gk=rows.length-a∧Cel wx gw 3 (wf m fun t=>(wS rows cols n a t:Nat))∧Duo wx bz (.bool false) (.slice none 0 0)∧Below w.heap.size w wx
theorem tminor_any {A:Nat→Nat→Int} {w:World} {bt ga gb go_ m n s:Nat} {bs os rows cols:List Nat} {F:Nat→Nat→Int} {d:Int} {rk KW:Nat} {rv cv:Value} (hM:TabM w bt ga gb go_ m n bs os F d rk KW) (hT:Tbl A m n (gd bs) (gd os) F d)
  (hrk:∀(s:Nat) (rows cols:Nat→Nat),rk<s→s≤min m n→(∀a,a<s→rows a<m)→(∀a,a<s→cols a<n)→det s (fun a b=>A (rows a) (cols b))=0)
  (hfit:∀f,((dcl A m n f).natAbs:Int)<pw KW) (hKW:KW≤4000000000) (hri:In9 w rv (natv rows)) (hci:In9 w cv (natv cols)) (hrl:rows.length=s) (hcl:cols.length=s) (hr:rows.Nodup) (hc:cols.Nodup) (hm:∀x∈rows,x<m) (hn:∀x∈cols,x<n) (hs:s≤min m n) :
  Calls Tryz.prog 58 #[.pointer (some ⟨bt,0,none⟩),rv,cv] w (zWA w (det s fun a b=>A (rows.getD a 0) (cols.getD b 0)) KW):=by
 have hm64:=hM.hm;have hn64:=hM.hn;have hrk64:=hM.rk64;obtain ⟨vb0,x0_,y0_,hcel0⟩:=hM.cel;have KT:Hid (∀X,Below w.heap.size w X→Cel X bt 103 (tbL m n rk (.slice (some ⟨ga,0,none⟩) (m*n) (m*n)) vb0 (.slice (some ⟨go_,0,none⟩) n n) x0_ y0_)):=fun X hb=>hcel0.step hb
 obtain ⟨ar,cr,hvr,-,-,hrf⟩:=hri.form;obtain ⟨ac,cc,hvc,-,-,hcf⟩:=hci.form;have er:(natv rows).length=s:=by simp [natv,hrl]
 have ec:(natv cols).length=s:=by simp [natv,hcl]
 rw [er] at hvr;rw [ec] at hvc;subst hvr hvc;have RF:Hid (0<s→∃b off,ar=some ⟨b,off,none⟩):=fun q=>hrf fun e=>by rw [e] at er;simp at er;omega
 have CF:Hid (0<s→∃b off,ac=some ⟨b,off,none⟩):=fun q=>hcf fun e=>by rw [e] at ec;simp at ec;omega
 have RI:=hid hri;have CI:=hid hci;have HRL:=hid hrl;have HCL:=hid hcl;have HR:=hid hr;have HMM:=hid hm;have HNN:=hid hn;have HALL:=hid (wL_all hr hc (by rw [hrl,hcl]) hm hn);have HMI:Hid (dcl A m n (gd (wL rows cols m n))=det s fun a b=>A (rows.getD a 0) (cols.getD b 0)):=by
  unfold Hid;rw [wL_minor hr (by rw [hrl,hcl]) hm hn,hrl]
 have TM:=hid hM;have TB:=hid hT;have HFIT:=hid hfit;have HKW:=hid hKW;have HZ:Hid (rk<s→(det s fun a b=>A (rows.getD a 0) (cols.getD b 0))=0):=fun q=>hrk s _ _ q hs (fun a ha=>hm _ (zTA (by omega))) (fun a ha=>hn _ (zTA (by omega)))
 obtain ⟨W0,hW0⟩:∃W0,w.alloc zbox=W0:=⟨_,rfl⟩
 obtain ⟨b0,sz0⟩:=alo1 w zbox;rw [hW0] at b0 sz0;have RB:Hid (Duo W0 w.heap.size (.bool false) (.slice none 0 0)):=by unfold Hid;rw [←hW0];exact Duo.new w _ _
 have B0:=hid b0;have SZ:=hid sz0;have t7:=(KT.out _ b0).at (i:=7) rfl;have t0:=(KT.out _ b0).at (i:=0) rfl;have EW:=hid hW0;clear hM hT hrk hfit hKW hri hci hrl hcl hr hc hm hn hrf hcf hcel0 er ec b0 sz0
 by_cases hbig:rk<s
 ·have hbig':(rk:Int)<(s:Int):=by omega
  have e0:=RB.out.c0;have e1:=RB.out.c1;have e2:=RB.out.fz 0;have e3:=RB.out.fz 1;rw [←hW0] at e0 e1 e2 e3 t7;have FIN:Hid (zWA w (det s fun a b=>A (rows.getD a 0) (cols.getD b 0)) KW (.returned (.agg #[.bool false,.slice none 0 0])) W0):=by
   unfold Hid;rw [HZ.out hbig];exact ⟨_,rfl,zmG _ _ _,B0.out⟩
  have PF:=hid RB.out;rw [←hW0] at FIN PF;clear hW0 EW hbig t0 HZ;go_enter Tryz.func58,Tryz.ntmps58;go_wp2;exact bodyPost_ret (znA Tryz.results58 PF.out _ (by rfl)) rfl FIN.out
 ·have hbig':¬(rk:Int)<(s:Int):=by omega
  rw [←hW0] at t7 t0;clear HZ hbig hW0;go_enter Tryz.func58,Tryz.ntmps58;go_wp2_with (at_make;rw [EW.out];refine zRB _ rfl _ _ rfl _ _ m m rfl rfl rfl rfl (Nat.le_refl _) (by omega) ?_)
  intro w1 hrow hb1 hsz1;obtain ⟨bz,hbz⟩:∃bz,w.heap.size=bz:=⟨_,rfl⟩
  obtain ⟨gw,hgw⟩:∃gw,W0.heap.size=gw:=⟨_,rfl⟩
  have EBZ:=hid hbz;have EGW:Hid (gw=bz+1):=by unfold Hid;rw [←hgw,SZ.out,hbz]
  have H0:Hid (M1H w bz gw m n m (.int .i64 0) w1):=by
   refine ⟨0,rfl,Nat.zero_le _,rfl,?_,?_,zBA B0.out hb1.out⟩
   ·rw [←hgw,zbA (F:=fun t=>if t<0 then ((n+t:Nat):Int) else 0) (G:=fun _=>0) fun t _=>if_neg (Nat.not_lt_zero _)];exact hrow.out
   ·rw [←hbz];exact RB.out.step hb1.out
  rw [hgw,hbz];clear hrow hb1 hsz1 EW SZ RB B0 hbz hgw t7 t0;go_wp2_with fail
  go_loopg [27] m (fun gk s27 wx=>M1H w bz gw m n gk s27 wx)
  case atStart=>exact H0.out
  case round =>
   clear H0;obtain ⟨i,rfl,him,hgk,hcw,hdz,hbw⟩:=hrel;have CW:=hid hcw;have DZ:=hid hdz;have BW:=hid hbw;have HG:=hid hgk;clear hcw hdz hbw hgk
   by_cases hlt:i<m
   ·have hlt':(i:Int)<(m:Int):=by omega
    have hwi:=zNA (i:=i) (by omega);have hws:IntKind.i64.wrap ((n:Int)+(i:Int))=((n+i:Nat):Int):=by rw [zaA] <;> omega
    have HM1:Hid (m-(i+1)<gk):=by unfold Hid;rw [HG.out];omega
    have t1:=(KT.out _ BW.out).at (i:=1) rfl;have e0:=CW.out.nf hlt;have e1:=CW.out.fz i;have HN1:Hid (M1H w bz gw m n (m-(i+1)) (.int .i64 ((i+1:Nat):Int)) (wr.setCell ⟨gw,i,none⟩ (.int .i64 ((n+i:Nat):Int)))):=by
     refine ⟨i+1,rfl,by omega,rfl,?_,DZ.out.ne (by have:=EGW.out;omega),bset BW.out (by have:=EGW.out;have:=EBZ.out;omega)⟩;have:=CW.out.nfset hlt ((n+i:Nat):Int);rw [zbA (G:=fun t=>if t<i+1 then ((n+t:Nat):Int) else 0) fun t ht=>?_] at this
     ·exact this
     ·show (if t=i then ((n+i:Nat):Int) else if t<i then ((n+t:Nat):Int) else 0)=if t<i+1 then ((n+t:Nat):Int) else 0
      by_cases q:t=i
      ·rw [if_pos q,if_pos (by omega),q]
      ·rw [if_neg q]
       by_cases q2:t<i
       ·rw [if_pos q2,if_pos (by omega)]
       ·rw [if_neg q2,if_neg (by omega)]
    obtain ⟨ni,hni⟩:∃ni,n+i=ni:=⟨_,rfl⟩
    rw [hni] at hws HN1;clear HG CW DZ BW hni;go_wp2_with fail;go_roundg (m-(i+1))
    case rel=>exact HN1.out
    case measure=>exact HM1.out
   ·have hlt':¬(i:Int)<(m:Int):=by omega
    obtain rfl:i=m:=by omega
    have H1:Hid (M2H w bz gw i n rows cols s (.int .i64 0) wr):=by
     refine ⟨0,rfl,Nat.zero_le _,by rw [HRL.out];rfl,?_,DZ.out,BW.out⟩;have:=CW.out;rw [zbA (G:=fun t=>(wS rows cols n 0 t:Nat)) fun t ht=>?_] at this
     ·exact this
     ·show (if t<i then ((n+t:Nat):Int) else 0)=((wS rows cols n 0 t:Nat):Int)
      rw [if_pos ht];unfold wS;rw [if_neg (fun h=>Nat.not_lt_zero _ h.2)]
    clear CW DZ BW HG;go_wp2_with fail
    go_loopg [43] s (fun gk s43 wx=>M2H w bz gw i n rows cols gk s43 wx)
    case atStart=>exact H1.out
    case round =>
     clear H1;obtain ⟨a,rfl,has,hgk,hcw,hdz,hbw⟩:=hrel;rw [HRL.out] at has hgk;have CW:=hid hcw;have DZ:=hid hdz;have BW:=hid hbw;have HG:=hid hgk;clear hcw hdz hbw hgk
     by_cases hlt2:a<s
     ·have hlt2':(a:Int)<(s:Int):=by omega
      have hwa:=zNA (i:=a) (by omega);have HM2:Hid (s-(a+1)<gk):=by unfold Hid;rw [HG.out];omega
      obtain ⟨rb,ro,har⟩:=RF.out (by omega);obtain ⟨cb,co,hac⟩:=CF.out (by omega);have r0:wr.cell? ⟨rb,ro+a,none⟩=some (.int .i64 (rows.getD a 0:Nat)):=by
       have h1:=RI.out.now BW.out;rw [har] at h1;have hal:a<rows.length:=by rw [HRL.out];exact hlt2
       rw [h1.at (i:=a) (by simp [natv];exact hal)];simp [natv,hal]
      have c0:wr.cell? ⟨cb,co+a,none⟩=some (.int .i64 (cols.getD a 0:Nat)):=by
       have h1:=CI.out.now BW.out;rw [hac] at h1;have hal:a<cols.length:=by rw [HCL.out];exact hlt2
       rw [h1.at (i:=a) (by simp [natv];exact hal)];simp [natv,hal]
      have hrm:rows.getD a 0<i:=HMM.out _ (zTA (by rw [HRL.out];exact hlt2));have HN1:Hid (M2H w bz gw i n rows cols (s-(a+1)) (.int .i64 ((a+1:Nat):Int)) (wr.setCell ⟨gw,rows.getD a 0,none⟩ (.int .i64 (cols.getD a 0:Nat)))):=by
       refine ⟨a+1,rfl,by rw [HRL.out];omega,by rw [HRL.out],?_,DZ.out.ne (by have:=EGW.out;omega),bset BW.out (by have:=EGW.out;have:=EBZ.out;omega)⟩;have:=CW.out.nfset hrm (cols.getD a 0:Nat);rw [zbA fun t _=>wS_put HR.out (by rw [HRL.out];exact hlt2)] at this;exact this
      have e0:=CW.out.nf hrm;have e1:=CW.out.fz (rows.getD a 0);obtain ⟨ra,hra⟩:∃ra,rows.getD a 0=ra:=⟨_,rfl⟩
      obtain ⟨ca,hca⟩:∃ca,cols.getD a 0=ca:=⟨_,rfl⟩
      rw [hra] at r0 hrm HN1 e0 e1;rw [hca] at c0 HN1;have hrm':(ra:Int)<(i:Int):=by omega
      rw [har,hac];clear HG CW DZ BW hra hca;go_wp2_with fail;rw [←har,←hac];go_roundg (s-(a+1))
      case rel=>exact HN1.out
      case measure=>exact HM2.out
     ·have hlt2':¬(a:Int)<(s:Int):=by omega
      obtain rfl:a=s:=by omega
      have CWF:Hid (Cel wr gw 3 (wf i (nf14 (wL rows cols i n)))):=by
       unfold Hid;rw [zbA (G:=fun t=>((wS rows cols n a t:Nat):Int)) fun t ht=>?_]
       ·exact CW.out
       ·show (((wL rows cols i n).getD t 0:Nat):Int)=_
        rw [zqG ht,HRL.out]
      have HDO:=hid (detOf_any (TM.out.now BW.out) TB.out CWF.out HALL.out.1 HALL.out.2.1 HALL.out.2.2 HFIT.out HKW.out);rw [HMI.out] at HDO;clear CW HG CWF;go_wp2_with fail;refine HDO.out.mono ?_;rintro e w30 ⟨rf,rfl,m2,b⟩;obtain ⟨nf_,xf,af,cf,rfl⟩:=m2.parts;obtain ⟨lf,hlf⟩:∃lf,xf.length=lf:=⟨_,rfl⟩
      rw [hlf] at m2 ⊢;have PR:=hid (DZ.out.step b);have e0:=PR.out.c0;have e1:=PR.out.c1;have e2:=PR.out.fz 0;have e3:=PR.out.fz 1;have FIN:=hid (zDD m2 (zBA BW.out b) (by rw [EBZ.out];exact Nat.le_refl _) DZ.out.blk);have PF:=hid (PR.out.set (.bool nf_) (.slice af lf cf));clear HDO m2 b hlf;go_wp2_with fail;exact bodyPost_ret (znA Tryz.results58 PF.out _ (by rfl)) rfl FIN.out
open Go.RowKit Go.Shelf
theorem TabM.ty14 {T:TypeId} {w w':World} {bt ga gb go m n:Nat} {bs os:List Nat} {F:Nat→Nat→Int} {d:Int} {rk k:Nat} (h:TabM w bt ga gb go m n bs os F d rk k) (ht:Ty T w w') (h1:103≠T) (h2:3≠T) (h3:39≠T) (h4:58≠T):TabM w' bt ga gb go m n bs os F d rk k:=by
 obtain ⟨ab,cb,nd,ad,ld,cd,q1,q2,q3,q4⟩:=h.box;exact ⟨⟨ab,cb,nd,ad,ld,cd,q1.ty13 ht h1,q2.ty ht h4,q3,fun q=>⟨(q4 q).1,(q4 q).2.choose,(q4 q).2.choose_spec.ty13 ht h2⟩⟩,h.arr.ty ht h3 h4,h.oth.ty13 ht h2,h.ne,h.lb,h.lo,h.hm,h.hn,h.rk64⟩
theorem OwnP.ty14 {T:TypeId} {B:Nat} {w w':World} {v:Value} {ps:List (Value×Value)} (h:OwnP B w v ps) (ht:Ty T w w') (hT:39≠T):OwnP B w' v ps:=by
 obtain ⟨q1,q2 | ⟨g,cap,cur,q2,q3,q4,q5⟩⟩:=h
 ·exact ⟨q1,.inl q2⟩
 ·exact ⟨q1,.inr ⟨g,cap,cur,q2,q3,ht.2 g _ _ _ q4 hT,q5⟩⟩
theorem OwnP.blk14 {B b:Nat} {w:World} {v:Value} {ps:List (Value×Value)} (h:OwnP B w v ps) (hb:v.ownBlock=some b):B≤b∧b<w.heap.size∧∃L,w.heap[b]?=some (.cells L 39 (0,0)):=by
 obtain ⟨_,⟨r2,_⟩ | ⟨g2,cap,cur,r2,r3,r4,r5⟩⟩:=h
 ·rw [r2] at hb;cases hb
 ·rw [r2] at hb
  simp only [Value.ownBlock,Option.some.injEq] at hb;subst hb;exact ⟨r3,(Array.getElem?_eq_some_iff.1 r4).1,cur,r4⟩
theorem OwnP.kc14 {B:Nat} {w w':World} {v:Value} {ps:List (Value×Value)} (h:OwnP B w v ps) (hk:Kc w w'):OwnP B w' v ps:=by
 obtain ⟨q1,q2 | ⟨g,cap,cur,q2,q3,q4,q5⟩⟩:=h
 ·exact ⟨q1,.inl q2⟩
 ·exact ⟨q1,.inr ⟨g,cap,cur,q2,q3,hk.2 g _ q4 rfl,q5⟩⟩
theorem Zms.kc14 {w w':World} {ps:List (Value×Value)} {zs:List Int} {k:Nat} (h:Zms w ps zs k) (hk:Kc w w'):Zms w' ps zs k:=⟨h.1,fun j p z hp hz=>(h.2 j p z hp hz).kc hk⟩
structure CpJ (w w3:World) (ba br bA:Nat) (La:List Value) (R C:Nat) (zs:List Int) (KW B:Nat) (W:World) (v:Value):Prop where
 ty:Ty 24 w3 W
 a:Cel W ba 24 La
 r:Cel W br 24 [.int .i64 0,.int .i64 0,.slice none 0 0]
 all:Cel W bA 24 [.int .i64 (R:Int),.int .i64 (C:Int),v]
 own:∃ps,OwnP B W v ps∧Zms W ps zs KW
 bw:Below w.heap.size w W
section
variable {w w3:World} {ba br bA R C KW B:Nat} {La:List Value} {zs:List Int} {W W':World} {v:Value}
theorem CpJ.kc (h:CpJ w w3 ba br bA La R C zs KW B W v) (hk:Kc W W') (hb:Below w.heap.size w W'):CpJ w w3 ba br bA La R C zs KW B W' v:=by
 obtain ⟨ps,h1,h2⟩:=h.own;exact ⟨h.ty.kc14 hk,hk.cel h.a,hk.cel h.r,hk.cel h.all,⟨ps,h1.kc14 hk,h2.kc14 hk⟩,hb⟩
theorem CpJ.now (h:CpJ w w3 ba br bA La R C zs KW B W v) (hb:Below W.heap.size W W'):CpJ w w3 ba br bA La R C zs KW B W' v:=h.kc (zfB hb) (zBA h.bw hb)
theorem CpJ.tou (h:CpJ w w3 ba br bA La R C zs KW B W v) {g:Nat} {L:Array Value} (hg:w3.heap.size≤g) (hL:W.heap[g]?=some (.cells L 3 (0,0))) (ht:zLA (· = g) W W') (h0:w.heap.size≤w3.heap.size):CpJ w w3 ba br bA La R C zs KW B W' v:=by
 have hty:=ht.tyg hL;obtain ⟨ps,h1,h2⟩:=h.own;refine ⟨⟨Nat.le_trans h.ty.1 ht.size,fun b L' T' fr e hne=>?_⟩,h.a.ty13 hty (by decide),h.r.ty13 hty (by decide),h.all.ty13 hty (by decide),⟨ps,h1.ty14 hty (by decide),h2.ty hty (by decide)⟩,?_⟩
 ·have e1:=h.ty.2 b L' T' fr e hne
  have hb:=(Array.getElem?_eq_some_iff.1 e).1;exact (ht.block b (Array.getElem?_eq_some_iff.1 e1).1 (by omega)).trans e1
 ·exact h.bw.trans ⟨ht.os,ht.tape,ht.output,ht.size,fun c hc=>ht.block c (Nat.lt_of_lt_of_le hc h.bw.size) (by omega)⟩
theorem CpJ.setR (h:CpJ w w3 ba br bA La R C zs KW B W v) {R':Nat} (hne:bA≠ba∧bA≠br) (hw:w.heap.size≤bA):CpJ w w3 ba br bA La R' C zs KW B (W.setCell ⟨bA,0,none⟩ (.int .i64 (R':Int))) v:=by
 have ty:Ty 24 W (W.setCell ⟨bA,0,none⟩ (.int .i64 (R':Int))):=Ty.set h.all;obtain ⟨ps,h1,h2⟩:=h.own;exact ⟨h.ty.trans ty,h.a.ne hne.1,h.r.ne hne.2,h.all.set 0 _,⟨ps,h1.ty14 ty (by decide),h2.ty ty (by decide)⟩,bset h.bw hw⟩
theorem CpJ.app {V w':World} {g' l' cap':Nat} {x y:Value} {z:Int} {ps:List (Value×Value)} (h:CpJ w w3 ba br bA La R C zs KW B W v) (hb:Below W.heap.size W V) (hps:OwnP B W v ps) (hzs:Zms W ps zs KW) (hz:Zm 0 V (.agg #[x,y]) z KW)
  (hI:OwnP B w' (.slice (some ⟨g',0,none⟩) l' cap') (ps ++ [(x,y)])) (hg:V.grownBy w' v.ownBlock) (hne:bA≠ba∧bA≠br) (hw:w.heap.size≤bA) (hB:w.heap.size≤B) (hB3:w3.heap.size≤B) :
  CpJ w w3 ba br bA La R C (zs ++ [z]) KW B (w'.setCell ⟨bA,2,none⟩ (.slice (some ⟨g',0,none⟩) l' cap')) (.slice (some ⟨g',0,none⟩) l' cap'):=by
 have hV:=h.now hb;have hpV:OwnP B V v ps:=hps.kc14 (zfB hb);have hzV:Zms V ps zs KW:=hzs.now hb;have tg:Ty 39 V w':=Ty.grown hpV hg;have c1:Cel w' bA 24 [.int .i64 (R:Int),.int .i64 (C:Int),v]:=hV.all.ty13 tg (by decide);have ts:Ty 24 w' (w'.setCell ⟨bA,2,none⟩ (.slice (some ⟨g',0,none⟩) l' cap')):=Ty.set c1;have one:Zms V [(x,y)] [z] KW:=⟨rfl,fun j p q hp hq=>by
  match j,hp,hq with
  | 0,hp,hq=>simp at hp hq;subst hp hq;exact hz
  | j+1,hp,hq=>simp at hp⟩
 refine ⟨?_,(hV.a.ty13 tg (by decide)).ne hne.1,(hV.r.ty13 tg (by decide)).ne hne.2,c1.set 2 _,⟨_,hI.ty14 ts (by decide),((hzV.append one).ty tg (by decide)).ty ts (by decide)⟩,bset (hV.bw.trans ⟨hg.os,hg.tape,hg.output,hg.size,fun c hc=>hg.block c (Nat.lt_of_lt_of_le hc hV.bw.size) fun q=>by have:=(hpV.blk14 q.symm).1;omega⟩) hw⟩;refine ⟨Nat.le_trans hV.ty.1 (Nat.le_trans tg.1 ts.1),fun b L' T' fr e hn=>ts.2 b L' T' fr ?_ hn⟩;have e1:=hV.ty.2 b L' T' fr e hn;have hlt:=(Array.getElem?_eq_some_iff.1 e).1;exact (hg.block b (Array.getElem?_eq_some_iff.1 e1).1 (fun q=>by have:=(hpV.blk14 q.symm).1;omega)).trans e1
theorem zVF {S:Nat→Prop} {V w':World} {g' l' cap' B' B0:Nat} {ps:List (Value×Value)} (h:CpJ w w3 ba br bA La R C zs KW B W v) (hb:Below W.heap.size W V) (hps:OwnP B W v ps) (hg:V.grownBy w' v.ownBlock) (hS:S bA) (hv:∀b,v.ownBlock=some b→S b∨B'≤b) :
  KeepsFrom B0 W (w'.setCell ⟨bA,2,none⟩ (.slice (some ⟨g',0,none⟩) l' cap'))∧KpL S B' W (w'.setCell ⟨bA,2,none⟩ (.slice (some ⟨g',0,none⟩) l' cap')):=by
 have hpV:OwnP B V v ps:=hps.kc14 (zfB hb);have hsz:W.heap.size≤(w'.setCell ⟨bA,2,none⟩ (.slice (some ⟨g',0,none⟩) l' cap')).heap.size:=by simp;exact Nat.le_trans hb.size hg.size
 refine ⟨⟨hsz,fun j o hj e ho=>?_⟩,hsz,fun b o h1 h2 e q=>?_⟩
 ·have e1:=(hb.block j (Array.getElem?_eq_some_iff.1 e).1).trans e
  have e2:=(hg.block j (Array.getElem?_eq_some_iff.1 e1).1 (fun q=>by
   obtain ⟨_,_,L',q''⟩:=hpV.blk14 q.symm;rw [e1,Option.some.injEq] at q'';subst q'';cases ho)).trans e1
  refine (Below.heap_setCell w' _ _ j (fun q=>?_)).trans e2;have q':j=bA:=by simpa using q
  subst q';have:=e.symm.trans (show W.heap[_]?=_ from h.all);rw [Option.some.injEq] at this;subst this;cases ho
 ·have e1:=(hb.block b (Array.getElem?_eq_some_iff.1 e).1).trans e
  have e2:=(hg.block b (Array.getElem?_eq_some_iff.1 e1).1 (fun r=>by
   rcases hv b r.symm with r | r
   ·exact h2 r
   ·omega)).trans e1
  have hbA:∀r:b=bA,S b:=fun r=>by rw [r];exact hS
  exact (Below.heap_setCell w' _ _ b (fun r=>h2 (hbA (by simpa using r)))).trans e2
end
def cpE (A:Nat→Nat→Int) (m n k i j:Nat):Int:=det k fun a b=>A (((zXA m k).getD i []).getD a 0) (((zXA n k).getD j []).getD b 0)
def cpL (A:Nat→Nat→Int) (m n k C t u:Nat):List Int:=((List.range t).flatMap fun i=>(List.range C).map (cpE A m n k i)) ++ (List.range u).map (cpE A m n k t)
theorem zeH (A:Nat→Nat→Int) (m n k C t:Nat):cpL A m n k C t C=cpL A m n k C (t+1) 0:=by
 unfold cpL;rw [List.range_succ,List.flatMap_append]
 simp
theorem cpL_put (A:Nat→Nat→Int) (m n k C t u:Nat):cpL A m n k C t u ++ [cpE A m n k t u]=cpL A m n k C t (u+1):=by
 unfold cpL;rw [List.range_succ,List.map_append,List.append_assoc]
 rfl
theorem zIE {α:Type} (f:Nat→List α) (C:Nat):∀t,(∀i,i<t→(f i).length=C)→((List.range t).flatMap f).length=t*C
 | 0,_=>by simp
 | t+1,h=>by
  rw [List.range_succ,List.flatMap_append,List.length_append,zIE f C t fun i hi=>h i (by omega)];simp [h t (by omega),Nat.succ_mul]
theorem cpL_len (A:Nat→Nat→Int) (m n k C t u:Nat):(cpL A m n k C t u).length=t*C+u:=by
 unfold cpL;rw [List.length_append,zIE _ C t fun i _=>by simp]
 simp
theorem keeps_start {bA i B0 B':Nat} {T:TypeId} {L:List Value} {u:Value} {W wi:World} (d:Cel W bA T L) (b:Below (W.setCell ⟨bA,i,none⟩ u).heap.size (W.setCell ⟨bA,i,none⟩ u) wi):KeepsFrom B0 W wi∧KpL (· = bA) B' W wi:=by
 have hs:W.heap.size≤wi.heap.size:=by have:=b.size;simpa using this
 have key:∀j o,W.heap[j]?=some o→j≠bA→wi.heap[j]?=some o:=fun j o e hj=>by
  have e1:=(Below.heap_setCell W ⟨bA,i,none⟩ u j (fun q=>hj (by simpa using q))).trans e;exact (b.block j (Array.getElem?_eq_some_iff.1 e1).1).trans e1
 refine ⟨⟨hs,fun j o hj e ho=>key j o e fun q=>?_⟩,hs,fun b' o h1 h2 e q=>key b' o e h2⟩;subst q;have:=e.symm.trans (show W.heap[j]?=_ from d);rw [Option.some.injEq] at this;subst this;cases ho
def CJo (w w3:World) (ba br bA:Nat) (La:List Value) (A:Nat→Nat→Int) (m n k R C KW:Nat) (s:Nat×Nat) (W:World):Prop :=
 w3.heap.size≤s.1∧s.2≤R∧∃v,CpJ w w3 ba br bA La s.2 C (cpL A m n k C s.2 0) KW s.1 W v
theorem CJo.own {w w3:World} {ba br bA m n k R C KW B:Nat} {La:List Value} {A:Nat→Nat→Int} (hB:w.heap.size≤B):OwnFrom B (CJo w w3 ba br bA La A m n k R C KW):=fun s W W' row hs hg hr=>by
 obtain ⟨h1,h2,v,h3⟩:=hs;exact ⟨h1,h2,v,h3.kc (ztA hg fun r e=>(hr r e).2) (h3.bw.grown hg h3.bw.size (fun k e=>Nat.le_trans hB (hr k e).1))⟩
theorem AtS.own {n k B:Nat} (s:Nat×Nat) (x:Value):OwnFrom B (fun (_:Unit) W=>AtS n k s x W):=fun _ W W' row hs hg hr=>by
 obtain ⟨h1,h2,h3⟩:=hs;exact ⟨h1,Nat.le_trans h2 hg.size,h3.kc14 (ztA hg fun r e=>(hr r e).2)⟩
def CJi (w w3 Wr wi:World) (ba br bA brow:Nat) (La:List Value) (A:Nat→Nat→Int) (m n k C KW B1 t:Nat) (v0 rv:Value) (rows:List Nat) (s:Nat×Nat) (W:World):Prop :=
 wi.heap.size≤s.1∧s.2≤C∧Cel W brow 47 [rv]∧Ivs 0 W rv rows∧KeepsFrom w3.heap.size Wr W∧KpL (· = bA) B1 Wr W∧∃v,CpJ w w3 ba br bA La (t+1) C (cpL A m n k C t s.2) KW B1 W v∧∀b,v.ownBlock=some b→(b=bA∨v0.ownBlock=some b)∨s.1≤b
section
variable {w w3 Wr wi:World} {ba br bA brow m n k C KW B1 t B:Nat} {La:List Value} {A:Nat→Nat→Int} {v0 rv:Value} {rows:List Nat}
theorem CJi.own (hB:w.heap.size≤B) (hr0:Wr.heap.size≤B):OwnFrom B (CJi w w3 Wr wi ba br bA brow La A m n k C KW B1 t v0 rv rows):=fun s W W' row hs hg hr=>by
 obtain ⟨h1,h2,h3,h4,h5,h6,v,h7,h8⟩:=hs;have hk:=ztA hg fun r e=>(hr r e).2
 exact ⟨h1,h2,hk.cel h3,h4.kc14 hk,ownFrom_keepsFrom (β:=Unit) hr0 () W W' row h5 hg hr,h6.kc14 hk,v,h7.kc hk (h7.bw.grown hg h7.bw.size (fun k e=>Nat.le_trans hB (hr k e).1)),h8⟩
theorem CJi.tou {s:Nat×Nat} {X Y:World} (h:CJi w w3 Wr wi ba br bA brow La A m n k C KW B1 t v0 rv rows s X) {g:Nat} {L:Array Value} (hg:wi.heap.size≤g) (hL:X.heap[g]?=some (.cells L 3 (0,0))) (ht:zLA (· = g) X Y) (h0:w.heap.size≤w3.heap.size) (h3:w3.heap.size≤wi.heap.size) (hrv:∀b,rv.ownBlock=some b→b<wi.heap.size) (hB1:B1≤wi.heap.size):CJi w w3 Wr wi ba br bA brow La A m n k C KW B1 t v0 rv rows s Y:=by
 obtain ⟨q1,q2,q3,q4,q5,q6,v,q7,q8⟩:=h;have hty:=ht.tyg hL;refine ⟨q1,q2,q3.ty13 hty (by decide),q4.keep fun b L' hb e=>?_,⟨Nat.le_trans q5.1 ht.size,fun j o hj e ho=>?_⟩,⟨Nat.le_trans q6.1 ht.size,fun b o h1 h2 e q=>?_⟩,v,q7.tou (by omega) hL ht h0,q8⟩
 ·have:=hrv b hb
  exact (ht.block b (Array.getElem?_eq_some_iff.1 e).1 (by omega)).trans e
 ·have e1:=q5.2 j o hj e ho
  refine (ht.block j (Array.getElem?_eq_some_iff.1 e1).1 (fun q=>?_)).trans e1;subst q;rw [hL,Option.some.injEq] at e1;subst e1;cases ho
 ·have e1:=q6.2 b o h1 h2 e q
  exact (ht.block b (Array.getElem?_eq_some_iff.1 e1).1 (by omega)).trans e1
end
end Go.Proofs.YtjnokjgbeploaaaGreat
