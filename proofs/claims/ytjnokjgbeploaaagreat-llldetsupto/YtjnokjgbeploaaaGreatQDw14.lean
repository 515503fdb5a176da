import Derived.Test.YtjnokjgbeploaaaGreatQEx13ToDm14
set_option maxRecDepth 100000
set_option maxHeartbeats 6400000
set_option linter.unusedVariables false
set_option linter.unusedSimpArgs false
namespace Go.Proofs.YtjnokjgbeploaaaGreat
open Go.RowKit
def D1H (w:World) (bz go m n:Nat) (W bs os:List Nat) (gk:Nat) (s7 s8 s22:Value) (wx:World):Prop :=
 ∃p:Nat,s22=.int .i64 (p:Int)∧p≤m∧gk=m-p∧Dq w wx bz go m (or1 W bs p) s7 s8 (.slice none 0 0) (opnL W bs p) (sltL W bs os p) []
def D2H (w:World) (bz go m n:Nat) (W bs os:List Nat) (v7 v8:Value) (gk:Nat) (s6 s60:Value) (wx:World):Prop :=
 ∃i:Nat,s60=.int .i64 (i:Int)∧i≤m∧gk=m-i∧Dq w wx bz go m (or2 W bs m i) v7 v8 s6 (opnL W bs m) (sltL W bs os m) (freL W bs i)
def D3H (Wd:World) (bx:Nat) (E d:Int) (s KK gk:Nat) (s105:Value) (wx:World):Prop :=
 ∃(t:Nat) (nx:Bool) (ax:Option Addr) (lx cx:Nat),s105=.int .i64 (t:Int)∧t≤s∧gk=s-t∧Duo wx bx (.bool nx) (.slice ax lx cx)∧Zm Wd.heap.size wx (.agg #[.bool nx,.slice ax lx cx]) (E*d ^ (s-t)) KK∧Below Wd.heap.size Wd wx
theorem Ivs.pos14 {B:Nat} {w:World} {v:Value} {l:List Nat} {n:Nat} (h:Ivs B w v l) (hn:l.length=n):∃a c,v=.slice a n c:=by
 obtain ⟨a,c,e,-,-⟩:=h.form;exact ⟨a,c,by rw [e,hn]⟩
theorem detOf_any {A:Nat→Nat→Int} {w:World} {bt ga gb go_ gw m n:Nat} {bs os W:List Nat} {F:Nat→Nat→Int} {d:Int} {rk KW:Nat} (hM:TabM w bt ga gb go_ m n bs os F d rk KW) (hT:Tbl A m n (gd bs) (gd os) F d) (hW:Cel w gw 3 (wf m (nf14 W))) (hWl:W.length=m) (hWn:W.Nodup) (hWm:∀x∈W,x<n+m)
  (hfit:∀f,((dcl A m n f).natAbs:Int)<pw KW) (hKW:KW≤4000000000) :
  Calls Tryz.prog 74 #[.pointer (some ⟨bt,0,none⟩),.slice (some ⟨gw,0,none⟩) m m] w (zWA w (dcl A m n (gd W)) KW):=by
 have hm64:=hM.hm;have hn64:=hM.hn;have hlb:=hM.lb;have hlo:=hM.lo;have nb:bs.Nodup:=zlI fun i j hi hj e=>hT.fi i j (by omega) (by omega) e
 have hcov:∀x∈W,x∈bs∨x∈os:=fun x hx=>by
  rcases hT.cov x (hWm x hx) with ⟨i,hi,e⟩ | ⟨j,hj,e⟩
  ·exact .inl (by rw [←e];exact zTA (by omega))
  ·exact .inr (by rw [←e];exact zTA (by omega))
 have HALL:=hid (ord_all (os:=os) hWl hlb hWn nb hcov);have HOF:=hid (zfF hWl hlb hWn nb);have HOE:Hid (∀t,t<m→or2 W bs m m t=((ordL W bs m).getD t 0:Nat)):=fun t ht=>or2_end hWl hlb hWn nb ht
 have HCV:=hid hcov;have HWL:=hid hWl;have HLB:=hid hlb;have HLO:=hid hlo;have TM:=hid hM;have TB:=hid hT;obtain ⟨vb0,nd0,ad0,ld0,cd0,hcel0,hzd0,hin0⟩:=hM.basis14;obtain ⟨av0,cv0,hvb0,-,-,hne0⟩:=hin0.form;rw [show (natv bs).length=m by simp [natv,hlb]] at hvb0;subst hvb0;obtain ⟨mn,hmn⟩:∃mn,m*n=mn:=⟨_,rfl⟩
 rw [hmn] at hcel0;have EMN:=hid hmn;have KT:Hid (∀X,Below w.heap.size w X→Cel X bt 103 (tbL m n rk (.slice (some ⟨ga,0,none⟩) mn mn) (.slice av0 m cv0) (.slice (some ⟨go_,0,none⟩) n n) (.bool nd0) (.slice ad0 ld0 cd0))∧In9 X (.slice av0 m cv0) (natv bs)∧Zm 0 X (.agg #[.bool nd0,.slice ad0 ld0 cd0]) d KW):=fun X hb=>⟨hcel0.step hb,hin0.now hb,hzd0.now hb⟩
 have HAV:Hid (0<m→∃b off,av0=some ⟨b,off,none⟩):=fun q=>hne0 fun e=>by
  have e2:(natv bs).length=m:=by simp [natv,hlb]
  rw [e] at e2;simp at e2;omega
 clear hcel0 hzd0 hin0 hne0 hmn;have CW:=hid hW;have HFIT:=hid hfit;have HKW:=hid hKW;obtain ⟨W0,hW0⟩:∃W0,w.alloc zbox=W0:=⟨_,rfl⟩
 obtain ⟨b0,sz0⟩:=alo1 w zbox;rw [hW0] at b0 sz0;have RB:Hid (Duo W0 w.heap.size (.bool false) (.slice none 0 0)):=by unfold Hid;rw [←hW0];exact Duo.new w _ _
 have B0:=hid b0;have EW:=hid hW0;have SZ:=hid sz0;clear hM hT hW hWl hWn hWm hfit hKW nb hcov hlb hlo b0 sz0 hW0;go_enter Tryz.func74,Tryz.ntmps74;go_wp2_with (at_make;rw [EW.out];refine zRB _ rfl _ _ rfl _ _ m m rfl rfl rfl rfl (Nat.le_refl _) (by omega) ?_)
 intro w1 hrow hb1 hsz1;obtain ⟨bz,hbz⟩:∃bz,w.heap.size=bz:=⟨_,rfl⟩
 obtain ⟨go,hgo⟩:∃go,W0.heap.size=go:=⟨_,rfl⟩
 have EBZ:=hid hbz;have H0:Hid (D1H w bz go m n W bs os m (.slice none 0 0) (.slice none 0 0) (.int .i64 0) w1):=by
  refine ⟨0,rfl,Nat.zero_le _,rfl,zBA B0.out hb1.out,?_,?_,?_,?_,?_,?_,?_,?_,fun c h=>?_,fun c h=>?_,fun c h=>?_⟩
  ·rw [←hgo];exact B0.out.size
  ·rw [←hbz];exact Nat.le_refl _
  ·have:=SZ.out;omega
  ·rw [←hbz];exact RB.out.step hb1.out
  ·rw [←hgo,zbA (F:=or1 W bs 0) (G:=fun _=>0) fun t _=>if_neg (Nat.not_lt_zero _)];exact hrow.out
  ·exact Ivs.nil _ _
  ·exact Ivs.nil _ _
  ·exact Ivs.nil _ _
  ·cases h
  ·cases h
  ·cases h
 rw [hgo,hbz];clear hrow hb1 hsz1 EW SZ RB B0 hbz hgo;go_wp2_with fail
 go_loopg [7,8,22] m (fun gk s7 s8 s22 wx=>D1H w bz go m n W bs os gk s7 s8 s22 wx)
 case atStart=>exact H0.out
 case round =>
  clear H0;obtain ⟨p,rfl,hpm,hgk,hdq⟩:=hrel;have DQ:=hid hdq;have HG:=hid hgk;clear hdq hgk
  by_cases hlt:p<m
  ·have hlt':(p:Int)<(m:Int):=by omega
   have hwp:=zNA (i:=p) (by omega);have HMM:Hid (m-(p+1)<gk):=by unfold Hid;rw [HG.out];omega
   obtain ⟨vb,nd,ad,ld,cd,hcel,-,hin⟩:=(TM.out.now DQ.out.bw).basis14;have t3:=hcel.at (i:=3) rfl;have t4:=hcel.at (i:=4) rfl;have HI1:=hid (zmD (x:=W.getD p 0) hin (by rw [HLB.out];omega));have c0:wr.cell? ⟨gw,p,none⟩=some (.int .i64 (W.getD p 0:Nat)):=(CW.out.step DQ.out.bw).nf hlt;obtain ⟨av,cv,hvb,-,-,-⟩:=hin.form;rw [show (natv bs).length=m by simp [natv,HLB.out]] at hvb;subst hvb;obtain ⟨x,hx⟩:∃x,W.getD p 0=x:=⟨_,rfl⟩
   rw [hx] at HI1 c0;have HX:=hid hx;obtain ⟨ar,cr,hv7⟩:=DQ.out.a.pos14 rfl;obtain ⟨as_,cs,hv8⟩:=DQ.out.b.pos14 rfl;subst hv7 hv8;have HL1:=(zvG (W:=W) (bs:=bs) (os:=os) (p:=p))
   have HLA:Hid ((opnL W bs p).length≤1000000):=by unfold Hid;have:=HL1.2.1;omega
   have HLS:Hid ((sltL W bs os p).length≤1000000):=by unfold Hid;have:=HL1.1;omega
   have e0:=DQ.out.ord.nf hlt;have e1:=DQ.out.ord.fz p;have DQ1:=hid (DQ.out.put hlt (ixI bs x));clear HG hcel hin hx HL1
   by_cases hin:x∈bs
   ·have eI:ixI bs x=((ixo bs x:Nat):Int):=if_pos hin
    have DQ2:Hid (Dq w (wr.setCell ⟨go,p,none⟩ (.int .i64 ((ixo bs x:Nat):Int))) bz go m (or1 W bs (p+1)) (.slice ar (opnL W bs p).length cr) (.slice as_ (sltL W bs os p).length cs) (.slice none 0 0) (opnL W bs (p+1)) (sltL W bs os (p+1)) []):=by
     unfold Hid;rw [zxE (by rw [HX.out];exact hin),sltL_skip (by rw [HX.out];exact hin)];have:=DQ1.out;rw [eI] at this;refine this.congr fun t _=>?_
     rw [←eI,←HX.out];exact zDH
    rw [eI] at HI1;have c1:(wr.setCell ⟨go,p,none⟩ (.int .i64 ((ixo bs x:Nat):Int))).cell? ⟨go,p,none⟩=some (.int .i64 ((ixo bs x:Nat):Int)):=by
     have:=DQ1.out.ord.nf hlt;rw [eI] at this;rw [this];simp [upF]
    clear DQ1 eI hin DQ;generalize ixo bs x=q at *;have hq:¬(q:Int)<0:=by omega
    have HN1:Hid (D1H w bz go m n W bs os (m-(p+1)) (.slice ar (opnL W bs p).length cr) (.slice as_ (sltL W bs os p).length cs) (.int .i64 ((p+1:Nat):Int)) (wr.setCell ⟨go,p,none⟩ (.int .i64 (q:Int)))):=⟨p+1,rfl,by omega,rfl,DQ2.out⟩
    clear DQ2 HLA HLS;generalize (opnL W bs p).length=lo1 at *;generalize (sltL W bs os p).length=ls1 at *;go_wp2_with fail;refine HI1.out.mono ?_;rintro e wz ⟨rfl,hwz⟩;rw [hwz];clear hwz wz HI1;go_wp2_with fail;go_roundg (m-(p+1))
    case rel=>exact HN1.out
    case measure=>exact HMM.out
   ·have eI:ixI bs x = -1:=if_neg hin
    have hos:x∈os:=(HCV.out x (by rw [←HX.out];exact zTA (by rw [HWL.out];exact hlt))).resolve_left hin;have HOS:Hid (ixI os x=((ixo os x:Nat):Int)):=if_pos hos;have HNI:=hid hin;rw [eI] at HI1 DQ1;obtain ⟨V1,hV1⟩:∃V1,wr.setCell ⟨go,p,none⟩ (.int .i64 (-1))=V1:=⟨_,rfl⟩
    have c1:=DQ1.out.ord.nf hlt;rw [show upF (or1 W bs p) p (-1) p = -1 by simp [upF]] at c1;rw [hV1] at DQ1;obtain ⟨V2,hV2⟩:∃V2,V1.alloc (.cells #[.int .i64 (p:Int)] 3)=V2:=⟨_,rfl⟩
    obtain ⟨b2,sz2⟩:=alo1 V1 (.cells #[.int .i64 (p:Int)] 3);rw [hV2] at b2 sz2;have CV2:Hid (V2.cell? ⟨V1.heap.size,0,none⟩=some (.int .i64 (p:Int))):=by unfold Hid;rw [←hV2];exact (Cel.new V1 3 [.int .i64 (p:Int)]).at (i:=0) rfl
    have SV1:V1.heap.size=wr.heap.size:=by rw [←hV1];simp
    rw [SV1] at CV2;have DQ2:=hid (DQ1.out.now b2);have EV1:=hid hV1;have EV2:=hid hV2;clear DQ DQ1 hV1 hV2 b2 sz2 hin hos eI SV1;go_wp2_with fail;refine HI1.out.mono ?_;rintro e wz ⟨rfl,hwz⟩;rw [hwz];clear hwz wz HI1;go_wp2_with (at_builtin;rw [EV1.out,EV2.out];refine wpList_append_ivs V2 rfl (.tmp 41) (.tmp 43) rfl (go+1) _ _ p rfl DQ2.out.a wr.heap.size rfl CV2.out HLA.out DQ2.out.sz ?_)
    intro g1 cap1 w3 hI hg hb;have DQ3:=hid (DQ2.out.addA hI.out hg.out hb.out);obtain ⟨vb3,nd3,ad3,ld3,cd3,hcel3,-,-⟩:=(TM.out.now DQ3.out.bw).basis14;have t4:=hcel3.at (i:=4) rfl;have HI2:=hid (zmD (x:=x) (TM.out.now DQ3.out.bw).oth14 (by rw [HLO.out];omega));rw [HOS.out] at HI2;obtain ⟨V4,hV4⟩:∃V4,w3.alloc (.cells #[.int .i64 ((ixo os x:Nat):Int)] 3)=V4:=⟨_,rfl⟩
    obtain ⟨b4,sz4⟩:=alo1 w3 (.cells #[.int .i64 ((ixo os x:Nat):Int)] 3);rw [hV4] at b4 sz4;have CV4:Hid (V4.cell? ⟨w3.heap.size,0,none⟩=some (.int .i64 ((ixo os x:Nat):Int))):=by unfold Hid;rw [←hV4];exact (Cel.new w3 3 [.int .i64 ((ixo os x:Nat):Int)]).at (i:=0) rfl
    have DQ4:=hid (DQ3.out.now b4);have EV4:=hid hV4;have HXO:Hid (W.getD p 0=x):=HX.out;clear hI hg hb DQ2 DQ3 CV2 EV1 EV2 hcel3 b4 sz4 hV4 c1 e0 e1 c0 t3;go_wp2_with fail;refine HI2.out.mono ?_;rintro e wz ⟨rfl,hwz⟩;rw [hwz];clear hwz wz HI2;go_wp2_with (at_builtin;rw [EV4.out];refine wpList_append_ivs V4 rfl (.tmp 45) (.tmp 52) rfl (go+1) _ _ (ixo os x) rfl DQ4.out.b w3.heap.size rfl CV4.out HLS.out DQ4.out.sz ?_)
    intro g2 cap2 w5 hI hg hb;have HN1:Hid (D1H w bz go m n W bs os (m-(p+1)) (.slice (some ⟨g1,0,none⟩) ((opnL W bs p).length+1) cap1) (.slice (some ⟨g2,0,none⟩) ((sltL W bs os p).length+1) cap2) (.int .i64 ((p+1:Nat):Int)) w5):=by
     refine ⟨p+1,rfl,by omega,rfl,?_⟩;rw [zwE (by rw [HXO.out];exact HNI.out),sltL_succ (by rw [HXO.out];exact HNI.out),HXO.out];refine (DQ4.out.addB hI.out hg.out hb.out).congr fun t _=>?_
     have:=zDH (W:=W) (bs:=bs) (p:=p) (t:=t);rw [HXO.out,show ixI bs x = -1 from if_neg HNI.out] at this;exact this
    clear hI hg hb DQ4 CV4 EV4 HLA HLS;generalize (opnL W bs p).length=lo1 at *;generalize (sltL W bs os p).length=ls1 at *;generalize ixo os x=oix at *;go_wp2_with fail;go_roundg (m-(p+1))
    case rel=>exact HN1.out
    case measure=>exact HMM.out
  ·have hlt':¬(p:Int)<(m:Int):=by omega
   obtain rfl:p=m:=by omega
   obtain ⟨so,hso⟩:∃so,(opnL W bs p).length=so:=⟨_,rfl⟩
   have ESO:=hid hso;have ESL:Hid ((sltL W bs os p).length=so):=by unfold Hid;rw [←hso];simp [sltL]
   have EFL:Hid ((freL W bs p).length=so):=by unfold Hid;rw [←hso];exact HOF.out.symm
   have hso64:so≤64:=by have:=(zvG (W:=W) (bs:=bs) (os:=os) (p:=p)).2.1;omega
   obtain ⟨a7,c7,hv7⟩:=DQ.out.a.pos14 hso;obtain ⟨a8,c8,hv8⟩:=DQ.out.b.pos14 ESL.out;subst hv7 hv8;have t3:=(KT.out _ DQ.out.bw).1.at (i:=3) rfl;have H1:Hid (D2H w bz go p n W bs os (.slice a7 so c7) (.slice a8 so c8) p (.slice none 0 0) (.int .i64 0) wr):=⟨0,rfl,Nat.zero_le _,by omega,by rw [show freL W bs 0=[] from rfl];exact DQ.out.congr fun t ht=>or1_end ht⟩
   clear DQ HG hso;go_wp2_with fail;clear t3
   go_loopg [6,60] p (fun gk s6 s60 wx=>D2H w bz go p n W bs os (.slice a7 so c7) (.slice a8 so c8) gk s6 s60 wx)
   case atStart=>exact H1.out
   case round =>
    clear H1;obtain ⟨i,rfl,hip,hgk,hdq⟩:=hrel;have DQ:=hid hdq;have HG:=hid hgk;clear hdq hgk
    by_cases hlt2:i<p
    ·have hlt2':(i:Int)<(p:Int):=by omega
     have hwi:=zNA (i:=i) (by omega);have HMM:Hid (p-(i+1)<gk):=by unfold Hid;rw [HG.out];omega
     obtain ⟨bb,off,hav⟩:=HAV.out (by omega);have c0:wr.cell? ⟨bb,off+i,none⟩=some (.int .i64 (bs.getD i 0:Nat)):=by
      have h1:=(KT.out _ DQ.out.bw).2.1;rw [hav] at h1;rw [h1.at (i:=i) (by simp [natv,HLB.out];exact hlt2)];have:i<bs.length:=by rw [HLB.out];exact hlt2
      simp [natv,this]
     have HCT:=hid (contains_any (x:=bs.getD i 0) ((CW.out.step DQ.out.bw).in14 (l:=W) HWL.out (by omega) fun t _=>rfl) (by rw [HWL.out];omega));obtain ⟨y,hy⟩:∃y,bs.getD i 0=y:=⟨_,rfl⟩
     rw [hy] at HCT c0;have HY:=hid hy;obtain ⟨a6,c6,hv6⟩:=DQ.out.c.pos14 rfl;subst hv6;rw [hav];clear HG hy
     by_cases hyw:y∈W
     ·have HN1:Hid (D2H w bz go p n W bs os (.slice a7 so c7) (.slice a8 so c8) (p-(i+1)) (.slice a6 (freL W bs i).length c6) (.int .i64 ((i+1:Nat):Int)) wr):=⟨i+1,rfl,by omega,rfl,by
       rw [zKF (by rw [HY.out];exact hyw)];exact DQ.out.congr fun t _=>(or2_skip (by rw [HY.out];exact hyw)).symm⟩
      rw [decide_eq_true hyw] at HCT;clear DQ hyw;generalize (freL W bs i).length=lf at *;go_wp2_with fail;refine HCT.out.mono ?_;rintro e wz ⟨rfl,hwz⟩;rw [hwz];clear hwz wz HCT;go_wp2_with fail;rw [←hav];go_roundg (p-(i+1))
      case rel=>exact HN1.out
      case measure=>exact HMM.out
     ·have hnw:bs.getD i 0 ∉ W:=by rw [HY.out];exact hyw
      have hsl:(freL W bs i).length<so:=by
       have h1:=freL_le (W:=W) (bs:=bs) (m:=p) (i:=i+1) (by omega);rw [znD hnw,EFL.out,List.length_append,List.length_singleton] at h1;omega
      rw [decide_eq_false hyw] at HCT;have HLF:Hid ((freL W bs i).length≤1000000):=by unfold Hid;omega
      obtain ⟨g7,hg7⟩:∃g7,a7=some ⟨g7,0,none⟩:=by
       obtain ⟨a',c',e1,-,h3⟩:=DQ.out.a.form;simp only [Value.slice.injEq] at e1;obtain ⟨g,e⟩:=h3 (by rw [ESO.out];omega);exact ⟨g,by rw [e1.1];exact e⟩
      have o0:wr.cell? ⟨g7,(freL W bs i).length,none⟩=some (.int .i64 ((opnL W bs p).getD (freL W bs i).length 0:Nat)):=by
       have h1:=DQ.out.a;rw [hg7] at h1;exact h1.at (by rw [ESO.out];exact hsl)
      have hop:(opnL W bs p).getD (freL W bs i).length 0<p:=(zAC.1 (zTA (by rw [ESO.out];exact hsl))).1;have DQ1:=hid ((DQ.out.put hop (i:Int)).congr fun t ht=>or2_put hnw ht (by rw [ESO.out];exact hsl));have DQn:=hid (znD hnw);obtain ⟨oo,hoo⟩:∃oo,(opnL W bs p).getD (freL W bs i).length 0=oo:=⟨_,rfl⟩
      rw [hoo] at o0 hop DQ1;have e0:=DQ.out.ord.nf hop;have e1:=DQ.out.ord.fz oo;have hop':(oo:Int)<(p:Int):=by omega
      have hsl':(((freL W bs i).length:Nat):Int)<(so:Int):=by omega
      obtain ⟨V1,hV1⟩:∃V1,wr.setCell ⟨go,oo,none⟩ (.int .i64 (i:Int))=V1:=⟨_,rfl⟩
      rw [hV1] at DQ1;obtain ⟨V2,hV2⟩:∃V2,V1.alloc (.cells #[.int .i64 (i:Int)] 3)=V2:=⟨_,rfl⟩
      obtain ⟨b2,sz2⟩:=alo1 V1 (.cells #[.int .i64 (i:Int)] 3);rw [hV2] at b2 sz2;have CV2:Hid (V2.cell? ⟨V1.heap.size,0,none⟩=some (.int .i64 (i:Int))):=by unfold Hid;rw [←hV2];exact (Cel.new V1 3 [.int .i64 (i:Int)]).at (i:=0) rfl
      have SV1:V1.heap.size=wr.heap.size:=by rw [←hV1];simp
      rw [SV1] at CV2;have DQ2:=hid (DQ1.out.now b2);have EV1:=hid hV1;have EV2:=hid hV2;rw [hg7];clear DQ DQ1 hV1 hV2 b2 sz2 SV1 hyw hoo hnw;generalize hfl:freL W bs i=fl at *;go_wp2_with fail;refine HCT.out.mono ?_;rintro e wz ⟨rfl,hwz⟩;rw [hwz];clear hwz wz HCT;go_wp2_with (at_builtin;rw [EV1.out,EV2.out];refine wpList_append_ivs V2 rfl (.tmp 77) (.tmp 79) rfl (go+1) _ _ i rfl DQ2.out.c wr.heap.size rfl CV2.out HLF.out DQ2.out.sz ?_)
      intro g1 cap1 w3 hI hg hb;have HN1:Hid (D2H w bz go p n W bs os (.slice (some ⟨g7,0,none⟩) so c7) (.slice a8 so c8) (p-(i+1)) (.slice (some ⟨g1,0,none⟩) (fl.length+1) cap1) (.int .i64 ((i+1:Nat):Int)) w3):=⟨i+1,rfl,by omega,rfl,by
       rw [DQn.out,←hg7];exact DQ2.out.addC hI.out hg.out hb.out⟩
      clear hI hg hb DQ2 CV2 EV1 EV2 HLF o0 e0 e1;generalize fl.length=lf at *;go_wp2_with fail;rw [←hav];rw [←hg7] at HN1 ⊢;go_roundg (p-(i+1))
      case rel=>exact HN1.out
      case measure=>exact HMM.out
    ·have hlt2':¬(i:Int)<(p:Int):=by omega
     obtain rfl:i=p:=by omega
     obtain ⟨a6,c6,hv6⟩:=DQ.out.c.pos14 EFL.out;subst hv6;have HALLo:=HALL.out;obtain ⟨lo,no,mo,o1,o2,hin,hop⟩:=HALLo;have hfm:∀x∈freL W bs i,x<i:=fun x hx=>(zMD.1 hx).1
     have hsn:∀x∈sltL W bs os i,x<n:=fun x hx=>by
      obtain ⟨t,ht,e⟩:=zUG hx;rw [←e,←HLO.out];exact (hop t (by rw [ESO.out];rw [ESL.out] at ht;exact ht)).2.1
     have HPK:=hid (pick_yes ((TM.out.now DQ.out.bw).arr.mx hm64 hn64) (DQ.out.c.in9 (by rw [EFL.out];omega)) (DQ.out.b.in9 (by rw [ESL.out];omega)) hfm hsn (by rw [EFL.out];exact hso64) (by rw [ESL.out];exact hso64));rw [EFL.out,ESL.out,EMN.out] at HPK;have hdt:=TB.out.detOf (w:=gd W) (fre:=freL W bs i) (slt:=sltL W bs os i) lo no mo o1 o2 hin (fun t ht=>⟨(hop t ht).1,by have:=(hop t ht).2.1;rw [HLO.out] at this;exact this,(hop t ht).2.2⟩);rw [ESO.out] at hdt;obtain ⟨E,hE⟩:∃E,sgb (odl false (ordL W bs i))*dcl A i n (gd W)=E:=⟨_,rfl⟩
     obtain ⟨L,hL⟩:∃L,det so (fun a b=>F ((freL W bs i).getD a 0) ((sltL W bs os i).getD b 0))=L:=⟨_,rfl⟩
     rw [hL] at hdt;have hLd:L*d=E*d ^ so:=by
      rw [←hE];have:=congrArg (fun z=>sgb (odl false (ordL W bs i))*z) hdt;rw [←Int.mul_assoc,←Int.mul_assoc,zyG,Int.one_mul] at this;exact this.symm
     have HLD:=hid hLd;have HEE:=hid hE;have HPD:Hid (det so (en so (zjG i n (zF i n F) (freL W bs i) (sltL W bs os i)))=L):=by
      unfold Hid;rw [pick_det hfm hsn EFL.out ESL.out,←hL];exact zEA fun a b ha hb=>en_zF (hfm _ (zTA (by rw [EFL.out];exact ha))) (hsn _ (zTA (by rw [ESL.out];exact hb)))
     have t0:=(KT.out _ DQ.out.bw).1.at (i:=0) rfl;have t1:=(KT.out _ DQ.out.bw).1.at (i:=1) rfl;have t2:=(KT.out _ DQ.out.bw).1.at (i:=2) rfl;clear lo no mo o1 o2 hin hop hfm hsn hdt hE hL hLd HG;go_wp2_with fail;refine HPK.out.mono ?_;rintro e w10 ⟨vp,rfl,mp,b⟩;obtain ⟨ap,qp,hvp,-,-⟩:=mp.mx.form;obtain ⟨lp,hlp⟩:∃lp,so*so=lp:=⟨_,rfl⟩
     rw [hlp] at hvp;subst hvp;obtain ⟨V11,hV11⟩:∃V11,w10.alloc (matO so so (.slice ap lp qp))=V11:=⟨_,rfl⟩
     obtain ⟨b11,sz11⟩:=alo1 w10 (matO so so (.slice ap lp qp));rw [hV11] at b11 sz11;have PP:Hid (Cel V11 w10.heap.size 24 (matc so so (.slice ap lp qp))):=by unfold Hid;rw [←hV11];exact Cel.new w10 _ _
     have HDT:=hid (det_sq (mp.mx.now b11) HKW.out);rw [HPD.out] at HDT;have DQ1:=hid ((DQ.out.now b).now b11);have y0:=PP.out.at (i:=0) rfl;have y1:=PP.out.at (i:=1) rfl;have y2:=PP.out.at (i:=2) rfl;rw [←hV11] at y0 y1 y2;have EV:=hid hV11;clear HPK mp b b11 sz11 hV11 hlp DQ t0 t1 t2 HPD;go_wp2_with fail;rw [EV.out];clear EV y0 y1 y2;refine HDT.out.mono ?_;rintro e w12 ⟨rq,rfl,m,b⟩;have ZQ:=hid (m.mono (Nat.zero_le _));obtain ⟨nq,xq,aq,cq,rfl⟩:=m.parts;obtain ⟨lq,hlq⟩:∃lq,xq.length=lq:=⟨_,rfl⟩
     rw [hlq] at ZQ ⊢;have DQ2:=hid (DQ1.out.now b);obtain ⟨V13,hV13⟩:∃V13,w12.alloc (duo (.bool nq) (.slice aq lq cq))=V13:=⟨_,rfl⟩
     obtain ⟨b13,sz13⟩:=alo1 w12 (duo (.bool nq) (.slice aq lq cq));rw [hV13] at b13 sz13;have DX:Hid (Duo V13 w12.heap.size (.bool nq) (.slice aq lq cq)):=by unfold Hid;rw [←hV13];exact Duo.new w12 _ _
     replace ZQ:=hid (ZQ.out.now b13);have DQ3:=hid (DQ2.out.now b13);have BX:=hid b13;have x0:=DX.out.c0;have x1:=DX.out.c1;have t5:=(KT.out _ DQ3.out.bw).1.at (i:=5) rfl;have t6:=(KT.out _ DQ3.out.bw).1.at (i:=6) rfl;have ZD:=hid (KT.out _ DQ3.out.bw).2.2;have EV:=hid hV13;clear HDT m b b13 sz13 hV13 hlq DQ1 PP;go_upto_region 20 with fail
     rw [EV.out];clear EV;have KB:Hid (∀w',Below V13.heap.size V13 w'→w'.cell? ⟨w12.heap.size,0,none⟩=some (.bool nq)∧w'.cell? ⟨w12.heap.size,1,none⟩=some (.slice aq lq cq)∧w'.cell? ⟨bt,5,none⟩=some (.bool nd0)∧w'.cell? ⟨bt,6,none⟩=some (.slice ad0 ld0 cd0)):=fun w' h=>⟨cnow h x0,cnow h x1,cnow h t5,cnow h t6⟩
     refine zDA (fun w'=>w'.cell? ⟨w12.heap.size,0,none⟩=some (.bool nq)∧w'.cell? ⟨w12.heap.size,1,none⟩=some (.slice aq lq cq)∧w'.cell? ⟨bt,5,none⟩=some (.bool nd0)∧w'.cell? ⟨bt,6,none⟩=some (.slice ad0 ld0 cd0)) 6 (by kernel_rfl) ?_;obtain ⟨D61,hD⟩:∃D61,V13.drew=D61:=⟨_,rfl⟩
     have GB:Hid (Below V13.heap.size V13 D61):=by unfold Hid;rw [←hD];exact (Below.refl _ _).drew
     rw [hD];clear hD;have GZ:Hid (w12.heap.size≤D61.heap.size):=(zBA BX.out GB.out).size;refine zAA (i:=0) (oi:=⟨some 97,.load 39 (.tmp 15),39, "table.go:117",#[],none⟩) (v:=(.agg #[.bool nq,.slice aq lq cq])) rfl (by kernel_rfl) (fun _ _ _ h=>h) (Or.inl ⟨by rfl,?_⟩) (KB.out _ GB.out) ?_
     ·intro w hSw;(try dsimp only at hSw);go_simp
     simp only [Act.put,sIb,sC0,sC1];refine zAA (i:=1) (oi:=⟨some 98,.move (.tmp 0),84, "table.go:117",#[],none⟩) (v:=(.pointer (some ⟨bt,0,none⟩))) rfl (by kernel_rfl) (fun _ _ _ h=>h) (Or.inl ⟨by rfl,?_⟩) (KB.out _ GB.out) ?_
     ·intro w hSw;(try dsimp only at hSw);go_simp
     simp only [Act.put,sIb,sC0,sC1];refine zAA (i:=2) (oi:=⟨some 99,.nilCheck (.tmp 98),0, "table.go:117",#[⟨1,.data⟩],none⟩) (v:=(.pointer (some ⟨bt,0,none⟩))) rfl (by kernel_rfl) (fun _ _ _ h=>h) (Or.inl ⟨by rfl,?_⟩) (KB.out _ GB.out) ?_
     ·intro w hSw;(try dsimp only at hSw);go_simp
     simp only [Act.put,sIb,sC0,sC1];refine zAA (i:=3) (oi:=⟨some 100,.fieldAddr 103 (.tmp 99) 3,0, "table.go:117",#[⟨2,.data⟩],none⟩) (v:=(.pointer (some ⟨bt,5,none⟩))) rfl (by kernel_rfl) (fun _ _ _ h=>h) (Or.inl ⟨by rfl,?_⟩) (KB.out _ GB.out) ?_
     ·intro w hSw;(try dsimp only at hSw);go_simp
     simp only [Act.put,sIb,sC0,sC1];refine zAA (i:=4) (oi:=⟨some 101,.load 39 (.tmp 100),39, "table.go:117",#[⟨3,.data⟩],none⟩) (v:=(.agg #[.bool nd0,.slice ad0 ld0 cd0])) rfl (by kernel_rfl) (fun _ _ _ h=>h) (Or.inl ⟨by rfl,?_⟩) (KB.out _ GB.out) ?_
     ·intro w hSw;(try dsimp only at hSw);go_simp
     simp only [Act.put,sIb,sC0,sC1];refine zCA (i:=5) (o:=⟨some 102,.call { callee:=.value (.func 59),args:=#[.tmp 97,.tmp 101],argTypes:=#[39,39] },39, "table.go:117",#[⟨0,.data⟩,⟨4,.data⟩],none⟩) (by kernel_rfl) rfl (fun K hK=>?_);go_simp;go_at_call 59;refine (zJD (ZQ.out.now GB.out).zi (ZD.out.now GB.out).zi (by have:=HKW.out;omega)).mono ?_;rintro e w62 ⟨r1,rfl,m1,b⟩;have lz62:=(show Below _ _ _ from b).size;replace GB:=hid (zBA GB.out b);have MM:=hid (m1.mono GZ.out);obtain ⟨nm,xm,am,cm,rfl⟩:=m1.parts;obtain ⟨lm,hlm⟩:∃lm,xm.length=lm:=⟨_,rfl⟩
     rw [hlm] at MM ⊢;rw [HLD.out] at MM;clear m1 hlm;clear b;refine hK.out _ _ (fun _=>KB.out _ GB.out) ?_;clear hK;refine zCA (i:=6) (o:=⟨none,.store 39 (.tmp 15) (.tmp 102),0, "table.go:117",#[⟨5,.data⟩,⟨5,.chain⟩,⟨0,.phase⟩,⟨1,.phase⟩,⟨2,.phase⟩,⟨3,.phase⟩,⟨4,.phase⟩,⟨5,.phase⟩],none⟩) (by kernel_rfl) rfl (fun K hK=>?_);have DX2:=hid (DX.out.step GB.out);have e0:=DX2.out.c0;have e1:=DX2.out.c1;have e2:=DX2.out.fz 0;have e3:=DX2.out.fz 1;go_simp;clear e0 e1 e2 e3;obtain ⟨V63,hW⟩:∃V63,((w62.setCell ⟨w12.heap.size,0,none⟩ (.bool nm)).setCell ⟨w12.heap.size,1,none⟩ (.slice am lm cm))=V63:=⟨_,rfl⟩
     have H3:Hid (D3H w12 w12.heap.size E d so (64*KW+7+KW) so (.int .i64 0) V63):=by
      unfold Hid;rw [←hW];exact ⟨0,_,_,_,_,rfl,Nat.zero_le _,rfl,DX2.out.set _ _,by rw [Nat.sub_zero];exact MM.out.ty (DX2.out.ty13 _ _) (by decide),bset (bset (zBA BX.out GB.out) (Nat.le_refl _)) (Nat.le_refl _)⟩
     rw [hW];clear hW;refine hK.out _ _ (fun h=>absurd h (by decide)) ?_;clear hK
     try simp only [Act.put]
     refine zFA (by kernel_rfl) ?_ _;clear GB KB GZ MM DX2 DX ZQ ZD x0 x1 t5 t6 DQ3 BX;obtain ⟨Wd,hWd⟩:∃Wd,Wd=w12:=⟨_,rfl⟩
     subst hWd;go_wp2_with fail
     go_loopg [105] so (fun gk s105 wx=>D3H Wd Wd.heap.size E d so (64*KW+7+KW) gk s105 wx)
     case atStart=>exact H3.out
     case round =>
      clear H3;obtain ⟨t,nx,ax,lx,cx,rfl,hts,hgk,hdx,hzx,hbw⟩:=hrel;have DX:=hid hdx;have ZX:=hid hzx;have BW:=hid hbw;have HG:=hid hgk;have DQ3:=hid (DQ2.out.now hbw);clear hdx hzx hbw hgk
      by_cases hlt3:t<so
      ·have hlt3':(t:Int)<(so:Int):=by omega
       have hwt:=zNA (i:=t) (by omega);have HM3:Hid (so-(t+1)<gk):=by unfold Hid;rw [HG.out];omega
       have x0:=DX.out.c0;have x1:=DX.out.c1;have t5:=(KT.out _ DQ3.out.bw).1.at (i:=5) rfl;have t6:=(KT.out _ DQ3.out.bw).1.at (i:=6) rfl;have ZD:=hid (KT.out _ DQ3.out.bw).2.2;have HQ:Hid (E*d ^ (so-t)=d*(E*d ^ (so-(t+1)))):=by
        unfold Hid;rw [show so-t=(so-(t+1))+1 by omega,Int.pow_succ]
        grind
       clear HG;go_wp2_with fail;have KB:Hid (∀w',Below wr.heap.size wr w'→w'.cell? ⟨Wd.heap.size,0,none⟩=some (.bool nx)∧w'.cell? ⟨Wd.heap.size,1,none⟩=some (.slice ax lx cx)∧w'.cell? ⟨bt,5,none⟩=some (.bool nd0)∧w'.cell? ⟨bt,6,none⟩=some (.slice ad0 ld0 cd0)):=fun w' h=>⟨cnow h x0,cnow h x1,cnow h t5,cnow h t6⟩
       refine zTD (fun w'=>w'.cell? ⟨Wd.heap.size,0,none⟩=some (.bool nx)∧w'.cell? ⟨Wd.heap.size,1,none⟩=some (.slice ax lx cx)∧w'.cell? ⟨bt,5,none⟩=some (.bool nd0)∧w'.cell? ⟨bt,6,none⟩=some (.slice ad0 ld0 cd0)) [9] (by kernel_rfl) ?_;obtain ⟨D81,hD⟩:∃D81,wr.drew=D81:=⟨_,rfl⟩
       have GB:Hid (Below wr.heap.size wr D81):=by unfold Hid;rw [←hD];exact (Below.refl _ _).drew
       rw [hD];clear hD;have GZ:Hid (Wd.heap.size≤D81.heap.size):=(zBA BW.out GB.out).size;refine zhA (i:=0) (oi:=⟨some 108,.load 39 (.tmp 15),39, "table.go:119",#[],none⟩) (v:=(.agg #[.bool nx,.slice ax lx cx])) rfl (by kernel_rfl) (fun _ _ _ h=>h) (Or.inl ⟨by rfl,?_⟩) (KB.out _ GB.out) ?_
       ·intro w hSw;(try dsimp only at hSw);go_simp
       simp only [Act.put,sIb,sC0,sC1];refine zIA (i:=1) (oi:=⟨some 109,.move (.tmp 0),84, "table.go:119",#[],none⟩) (v:=(.pointer (some ⟨bt,0,none⟩))) rfl (by kernel_rfl) (fun _ _ _ h=>h) (Or.inl ⟨by rfl,?_⟩)  ?_
       ·intro w hSw;(try dsimp only at hSw);go_simp
       simp only [Act.put,sIb,sC0,sC1];refine zIA (i:=2) (oi:=⟨some 110,.nilCheck (.tmp 109),0, "table.go:119",#[⟨1,.data⟩],none⟩) (v:=(.pointer (some ⟨bt,0,none⟩))) rfl (by kernel_rfl) (fun _ _ _ h=>h) (Or.inl ⟨by rfl,?_⟩)  ?_
       ·intro w hSw;(try dsimp only at hSw);go_simp
       simp only [Act.put,sIb,sC0,sC1];refine zIA (i:=3) (oi:=⟨some 111,.fieldAddr 103 (.tmp 110) 3,0, "table.go:119",#[⟨2,.data⟩],none⟩) (v:=(.pointer (some ⟨bt,5,none⟩))) rfl (by kernel_rfl) (fun _ _ _ h=>h) (Or.inl ⟨by rfl,?_⟩)  ?_
       ·intro w hSw;(try dsimp only at hSw);go_simp
       simp only [Act.put,sIb,sC0,sC1];refine zhA (i:=4) (oi:=⟨some 112,.load 39 (.tmp 111),39, "table.go:119",#[⟨3,.data⟩],none⟩) (v:=(.agg #[.bool nd0,.slice ad0 ld0 cd0])) rfl (by kernel_rfl) (fun _ _ _ h=>h) (Or.inl ⟨by rfl,?_⟩) (KB.out _ GB.out) ?_
       ·intro w hSw;(try dsimp only at hSw);go_simp
       simp only [Act.put,sIb,sC0,sC1];refine zxB (i:=5) (o:=⟨some 113,.call { callee:=.value (.func 65),args:=#[.tmp 108,.tmp 112],argTypes:=#[39,39] },62, "table.go:119",#[⟨0,.data⟩,⟨4,.data⟩],none⟩) (by kernel_rfl) rfl (fun K hK=>?_);go_simp;go_at_call 65;refine (zoD (ZX.out.now GB.out).zi (ZD.out.now GB.out).zi TB.out.nz (by have:=HKW.out;omega) (by have:=HKW.out;omega) (by rw [HQ.out];exact Int.mul_tmod_right _ _)).mono ?_;rintro e w82 ⟨r1,rfl,m1,b⟩;have lz82:=(show Below _ _ _ from b).size;replace GB:=hid (zBA GB.out b);have MM:=hid (m1.mono GZ.out);obtain ⟨nm,xm,am,cm,rfl⟩:=m1.parts;obtain ⟨lm,hlm⟩:∃lm,xm.length=lm:=⟨_,rfl⟩
       rw [hlm] at MM ⊢;rw [HQ.out,Int.mul_tdiv_cancel_left _ TB.out.nz] at MM;clear m1 hlm;clear b;refine hK.out _ _ (fun _ _=>KB.out _ GB.out) ?_;clear hK;refine zIA (i:=6) (oi:=⟨some 107,.move (.tmp 113),62, "table.go:119",#[⟨5,.data⟩],none⟩) (v:=(.tuple #[(.agg #[.bool nm,.slice am lm cm]),(.int .i64 0)])) rfl (by kernel_rfl) (fun _ _ _ h=>h) (Or.inl ⟨by rfl,?_⟩)  ?_
       ·intro w hSw;(try dsimp only at hSw);go_simp
       simp only [Act.put,sIb,sC0,sC1];refine zIA (i:=7) (oi:=⟨some 114,.extract (.tmp 107) 0,39, "table.go:119",#[⟨6,.data⟩],none⟩) (v:=(.agg #[.bool nm,.slice am lm cm])) rfl (by kernel_rfl) (fun _ _ _ h=>h) (Or.inl ⟨by rfl,?_⟩)  ?_
       ·intro w hSw;(try dsimp only at hSw);go_simp
       simp only [Act.put,sIb,sC0,sC1];refine zIA (i:=8) (oi:=⟨some 115,.extract (.tmp 107) 1,26, "table.go:119",#[⟨6,.data⟩,⟨9,.gcOnly .lateStores⟩],none⟩) (v:=(.int .i64 0)) rfl (by kernel_rfl) (fun _ _ _ h=>h) (Or.inl ⟨by rfl,?_⟩)  ?_
       ·intro w hSw;(try dsimp only at hSw);go_simp
       simp only [Act.put,sIb,sC0,sC1];refine zxB (i:=9) (o:=⟨none,.store 39 (.tmp 15) (.tmp 114),0, "table.go:119",#[⟨7,.data⟩,⟨5,.chain⟩,⟨0,.phase⟩,⟨1,.phase⟩,⟨2,.phase⟩,⟨3,.phase⟩,⟨4,.phase⟩,⟨5,.phase⟩,⟨6,.phase⟩,⟨7,.phase⟩,⟨8,.textOnly .lateStores⟩],none⟩) (by kernel_rfl) rfl (fun K hK=>?_);have DX2:=hid (DX.out.step GB.out);have e0:=DX2.out.c0;have e1:=DX2.out.c1;have e2:=DX2.out.fz 0;have e3:=DX2.out.fz 1;go_simp;clear e0 e1 e2 e3;obtain ⟨V83,hW⟩:∃V83,((w82.setCell ⟨Wd.heap.size,0,none⟩ (.bool nm)).setCell ⟨Wd.heap.size,1,none⟩ (.slice am lm cm))=V83:=⟨_,rfl⟩
       have HN1:Hid (D3H Wd Wd.heap.size E d so (64*KW+7+KW) (so-(t+1)) (.int .i64 ((t+1:Nat):Int)) V83):=by
        unfold Hid;rw [←hW];exact ⟨t+1,_,_,_,_,rfl,by omega,rfl,DX2.out.set _ _,MM.out.ty (DX2.out.ty13 _ _) (by decide),bset (bset (zBA BW.out GB.out) (Nat.le_refl _)) (Nat.le_refl _)⟩
       rw [hW];clear hW;refine hK.out _ _ (fun h=>absurd h (by decide)) ?_;clear hK
       try simp only [Act.put]
       refine zUD (by kernel_rfl) ?_ _;clear GB KB GZ MM DX2;go_wp2_with fail;go_roundg (so-(t+1))
       case rel=>exact HN1.out
       case measure=>exact HM3.out
      ·have hlt3':¬(t:Int)<(so:Int):=by omega
       obtain rfl:t=so:=by omega
       have HIO:=hid (isOdd_any (l:=ordL W bs i) DQ3.out.ord (HALL.out.1) (fun t ht=>HOE.out t ht) (by omega));have ZE:Hid (Zm Wd.heap.size wr (.agg #[.bool nx,.slice ax lx cx]) E (64*KW+7+KW)):=by
        have:=ZX.out;rw [Nat.sub_self,Int.pow_zero,Int.mul_one] at this;exact this
       have SB:Hid (bz<wr.heap.size):=by unfold Hid;have:=DQ3.out.sz;have:=DQ3.out.bo;omega
       have SD:Hid (bz<Wd.heap.size):=by unfold Hid;have:=DQ2.out.sz;have:=DQ2.out.bo;omega
       clear ZX HG;go_wp2_with fail;refine HIO.out.mono ?_;rintro e wz ⟨rfl,hwz⟩;rw [hwz];clear hwz wz HIO;have x0:=DX.out.c0;have x1:=DX.out.c1
       by_cases hodd:odl false (ordL W bs i)=true
       ·have ED:Hid (-E=dcl A i n (gd W)):=by
         unfold Hid;rw [←HEE.out,hodd];simp [sgb]
        have HNG:=hid (zkI ZE.out.zi);rw [ED.out] at HNG;rw [hodd];clear hodd;go_wp2_with fail;refine HNG.out.mono ?_;rintro e w30 ⟨rf,rfl,m,b⟩;have m2:=m.fit (HFIT.out _);obtain ⟨nf_,xf,af,cf,rfl⟩:=m.parts;obtain ⟨lf,hlf⟩:∃lf,xf.length=lf:=⟨_,rfl⟩
        rw [hlf] at m2 ⊢;have PR:=hid (DQ3.out.rb.step b);have e0:=PR.out.c0;have e1:=PR.out.c1;have e2:=PR.out.fz 0;have e3:=PR.out.fz 1;have FIN:=hid (zDD m2 (zBA DQ3.out.bw b) DQ3.out.bg SB.out);have PF:=hid (PR.out.set (.bool nf_) (.slice af lf cf));clear HNG m m2 b hlf;go_wp2_with fail;exact bodyPost_ret (znA Tryz.results74 PF.out _ (by rfl)) rfl FIN.out
       ·have hodd2:odl false (ordL W bs i)=false:=by simpa using hodd
        have ED:Hid (E=dcl A i n (gd W)):=by
         unfold Hid;rw [←HEE.out,hodd2];simp [sgb]
        rw [hodd2];rw [ED.out] at ZE;have PR:=hid DQ3.out.rb;have e0:=PR.out.c0;have e1:=PR.out.c1;have e2:=PR.out.fz 0;have e3:=PR.out.fz 1;have FIN:Hid (zWA w (dcl A i n (gd W)) KW (.returned (.agg #[.bool nx,.slice ax lx cx])) ((wr.setCell ⟨bz,0,none⟩ (.bool nx)).setCell ⟨bz,1,none⟩ (.slice ax lx cx))):=by
         unfold Hid;exact zDD (ZE.out.fit (HFIT.out _)) DQ3.out.bw DQ3.out.bg SD.out
        have PF:=hid (PR.out.set (.bool nx) (.slice ax lx cx));clear hodd hodd2;go_wp2_with fail;exact bodyPost_ret (znA Tryz.results74 PF.out _ (by rfl)) rfl FIN.out
end Go.Proofs.YtjnokjgbeploaaaGreat
