/-
 QGr23ToWk13: Gr23, Like11, Wk13, joined.
-/
import Derived.Test.YtjnokjgbeploaaaGreatQEachM11ToPr12
import Derived.Test.YtjnokjgbeploaaaGreatQProd9ToMul9
import Derived.Test.YtjnokjgbeploaaaGreatQTurn9
import Derived.Test.YtjnokjgbeploaaaGreatQLd13
import Derived.Test.YtjnokjgbeploaaaGreatQUnit9ToBw8
import Derived.Test.YtjnokjgbeploaaaGreatQChkN9ToLeastA9
import Derived.Test.YtjnokjgbeploaaaGreatQFil9ToDot9
import Derived.Test.YtjnokjgbeploaaaGreatQExact0ToZlaw0

set_option maxRecDepth 100000
set_option maxHeartbeats 6400000
set_option linter.unusedVariables false
set_option linter.unusedSimpArgs false
namespace Go.Proofs.YtjnokjgbeploaaaGreat
open Go.RowKit
def zbE (r c:Nat) (zs:List Int):List Int:=zTE r c r zs (zlB r c zs)
theorem zUH {w:World} {r c:Int} {a:Option Addr} {l cap:Nat} (h:¬Snd r c l):Calls Tryz.prog 5 #[.agg #[.int .i64 r,.int .i64 c,.slice a l cap]] w (zwC w 1):=by
 obtain ⟨W0,hW⟩:∃W0,(w.alloc (.cells #[.int .i64 r,.int .i64 c,.slice a l cap] 24)).alloc mbox=W0:=⟨_,rfl⟩
 obtain ⟨b0,sz0⟩:=zjA w (.cells #[.int .i64 r,.int .i64 c,.slice a l cap] 24) mbox;rw [hW] at b0 sz0;obtain ⟨pa,pr⟩:=zoA (o1:=[.int .i64 r,.int .i64 c,.slice a l cap]) hW;have HT:=hid (turn_no (w:=W0) (a:=a) (cap:=cap) h);have x0:=pa.at (i:=0) rfl;have x1:=pa.at (i:=1) rfl;have x2:=pa.at (i:=2) rfl;rw [←hW] at x0 x1 x2;have PR:=hid pr;have G0:=hid b0;have SZ:=hid sz0;have EW:=hid hW;clear b0 sz0 hW pa pr h;go_enter Tryz.func5,Tryz.ntmps5;go_wp2_with fail;rw [EW.out];refine HT.out.mono ?_;rintro e w1 ⟨rfl,b⟩;obtain ⟨V1,hV⟩:∃V1,w1.alloc (.cells #[.int .i64 0,.int .i64 0,.slice none 0 0] 24)=V1:=⟨_,rfl⟩
 obtain ⟨bv,szv⟩:=alo1 w1 (.cells #[.int .i64 0,.int .i64 0,.slice none 0 0] 24);rw [hV] at bv szv;have PR1:=hid ((PR.out.step b).step bv);have G1:=hid (zBA (zBA G0.out b) bv);have r0:=PR1.out.at (i:=0) rfl;have r1:=PR1.out.at (i:=1) rfl;have r2:=PR1.out.at (i:=2) rfl;have f0:=PR1.out.fz 0;have f1:=PR1.out.fz 1;have f2:=PR1.out.fz 2;have FIN:Hid (zwC w 1 (.returned (.tuple #[zxH,.int .i64 1])) (put3 V1 (w.heap.size+1) (.int .i64 0) (.int .i64 0) (.slice none 0 0))):=⟨rfl,zSA G1.out (by omega) _ _ _⟩
 have PF:=hid (PR1.out.put3 (.int .i64 0) (.int .i64 0) (.slice none 0 0));rw [←hV] at r0 r1 r2 f0 f1 f2 PF FIN;clear HT b bv szv hV x0 x1 x2 EW PR G0 G1 SZ;go_wp2;exact bodyPost_ret (zIC Tryz.results5 PF.out _ (by rfl) (by rfl)) rfl FIN.out
theorem zTG {w:World} {v:Value} {r c:Nat} {zs:List Int} {k:Nat} (h:Mx w v r c zs k) (hk:k+k+c<35184372088832):Calls Tryz.prog 5 #[v] w (zUB w r r (zbE r c zs) (k+k+c)):=by
 have M0:=hid h;obtain ⟨aa,ca,rfl,hr,hc⟩:=h.form;obtain ⟨la,hla⟩:∃la,r*c=la:=⟨_,rfl⟩
 rw [hla] at M0 ⊢;obtain ⟨W0,hW⟩:∃W0,(w.alloc (matO r c (.slice aa la ca))).alloc mbox=W0:=⟨_,rfl⟩
 obtain ⟨b0,sz0⟩:=zjA w (matO r c (.slice aa la ca)) mbox;rw [hW] at b0 sz0;obtain ⟨pa,pr⟩:=zoA (o1:=matc r c (.slice aa la ca)) hW;have HT:=hid (ztF (M0.out.now b0));have x0:=pa.at (i:=0) rfl;have x1:=pa.at (i:=1) rfl;have x2:=pa.at (i:=2) rfl;rw [←hW] at x0 x1 x2;have PA:=hid pa;have PR:=hid pr;have G0:=hid b0;have EW:=hid hW;replace M0:=hid (M0.out.now b0);clear h hla b0 sz0 hW pa pr;go_enter Tryz.func5,Tryz.ntmps5;go_wp2_with fail;rw [EW.out];clear EW x0 x1 x2;refine HT.out.mono ?_;rintro e w1 ⟨v1,rfl,m,b⟩;obtain ⟨a1,q1,rfl,-,-⟩:=m.mx.form;obtain ⟨lb,hlb⟩:∃lb,c*r=lb:=⟨_,rfl⟩
 rw [hlb] at m ⊢;obtain ⟨V1,hV⟩:∃V1,w1.alloc (.cells #[.int .i64 (c:Int),.int .i64 (r:Int),.slice a1 lb q1] 24)=V1:=⟨_,rfl⟩
 obtain ⟨bv,szv⟩:=alo1 w1 (.cells #[.int .i64 (c:Int),.int .i64 (r:Int),.slice a1 lb q1] 24);rw [hV] at bv szv;have PC:Hid (Cel V1 w1.heap.size 24 [.int .i64 (c:Int),.int .i64 (r:Int),.slice a1 lb q1]):=by unfold Hid;rw [←hV];exact Cel.new w1 _ _
 replace PR:=hid ((PR.out.step b).step bv);replace PA:=hid ((PA.out.step b).step bv);have G1:=hid (zBA (zBA G0.out b) bv);have HM:=hid (zLH ((M0.out.now b).now bv) (m.mx.now bv) hk);have z0:=PA.out.at (i:=0) rfl;have z1:=PA.out.at (i:=1) rfl;have z2:=PA.out.at (i:=2) rfl;have y0:=PC.out.at (i:=0) rfl;have y1:=PC.out.at (i:=1) rfl;have y2:=PC.out.at (i:=2) rfl;rw [←hV] at z0 z1 z2 y0 y1 y2;have EV:=hid hV;clear HT b bv szv hV PA PC G0 M0 m hlb;go_wp2_with fail;rw [EV.out];clear EV z0 z1 z2 y0 y1 y2;refine HM.out.mono ?_;rintro e w2 ⟨v2,rfl,m,b⟩;obtain ⟨a2,q2,rfl,-,-⟩:=m.mx.form;obtain ⟨lg,hlg⟩:∃lg,r*r=lg:=⟨_,rfl⟩
 rw [hlg] at m ⊢;have PR3:=hid (PR.out.step b);have G3:=hid (zBA G1.out b);have FIN:Hid (zUB w r r (zbE r c zs) (k+k+c) (.returned (.tuple #[.agg #[.int .i64 (r:Int),.int .i64 (r:Int),.slice a2 lg q2],.int .i64 0])) (put3 w2 (w.heap.size+1) (.int .i64 (r:Int)) (.int .i64 (r:Int)) (.slice a2 lg q2))) :=
  ⟨_,rfl,m.wk PR3.out _ _ _,zSA G3.out (by omega) _ _ _⟩
 have PF:=hid (PR3.out.put3 (.int .i64 (r:Int)) (.int .i64 (r:Int)) (.slice a2 lg q2));have r0:=PR3.out.at (i:=0) rfl;have r1:=PR3.out.at (i:=1) rfl;have r2:=PR3.out.at (i:=2) rfl;have f0:=PR3.out.fz 0;have f1:=PR3.out.fz 1;have f2:=PR3.out.fz 2;clear HM m b PR G1 hlg;go_wp2;exact bodyPost_ret (zIC Tryz.results5 PF.out _ (by rfl) (by rfl)) rfl FIN.out
theorem dets_un {w:World} {r c:Int} {a:Option Addr} {l cap:Nat} (h:¬Snd r c l):Calls Tryz.prog 6 #[.agg #[.int .i64 r,.int .i64 c,.slice a l cap]] w fun e w'=>e=.returned (.tuple #[.slice none 0 0,.int .i64 1])∧Below w.heap.size w w':=by
 obtain ⟨W0,hW⟩:∃W0,w.alloc (.cells #[.int .i64 r,.int .i64 c,.slice a l cap] 24)=W0:=⟨_,rfl⟩
 obtain ⟨b0,sz0⟩:=alo1 w (.cells #[.int .i64 r,.int .i64 c,.slice a l cap] 24);rw [hW] at b0 sz0;have pa:Cel W0 w.heap.size 24 [.int .i64 r,.int .i64 c,.slice a l cap]:=by rw [←hW];exact Cel.new w _ _
 have HT:=hid (zUH (w:=W0) (a:=a) (cap:=cap) h);have x0:=pa.at (i:=0) rfl;have x1:=pa.at (i:=1) rfl;have x2:=pa.at (i:=2) rfl;rw [←hW] at x0 x1 x2;have G0:=hid b0;have EW:=hid hW;clear b0 sz0 hW pa h;go_enter Tryz.func6,Tryz.ntmps6;go_wp2_with fail;rw [EW.out];clear EW x0 x1 x2;refine HT.out.mono ?_;rintro e w1 ⟨rfl,b⟩;obtain ⟨V1,hV⟩:∃V1,w1.alloc (.cells #[.int .i64 0,.int .i64 0,.slice none 0 0] 24)=V1:=⟨_,rfl⟩
 obtain ⟨bv,szv⟩:=alo1 w1 (.cells #[.int .i64 0,.int .i64 0,.slice none 0 0] 24);rw [hV] at bv szv;have FIN:Hid (Below w.heap.size w V1):=zBA (zBA G0.out b) bv;rw [←hV] at FIN;clear HT b bv szv hV G0;go_wp2;go_ret2;exact ⟨rfl,FIN.out⟩
theorem zYG {w:World} {v:Value} {r c:Nat} {zs:List Int} {k:Nat} (h:Mx w v r c zs k) (hk:k+k+c≤4000000000):Calls Tryz.prog 6 #[v] w (zgG w r (zbE r c zs) (64*(k+k+c)+7)):=by
 have M0:=hid h;obtain ⟨aa,ca,rfl,hr,hc⟩:=h.form;obtain ⟨la,hla⟩:∃la,r*c=la:=⟨_,rfl⟩
 rw [hla] at M0 ⊢;obtain ⟨W0,hW⟩:∃W0,w.alloc (matO r c (.slice aa la ca))=W0:=⟨_,rfl⟩
 obtain ⟨b0,sz0⟩:=alo1 w (matO r c (.slice aa la ca));rw [hW] at b0 sz0;have pa:Cel W0 w.heap.size 24 (matc r c (.slice aa la ca)):=by rw [←hW];exact Cel.new w _ _
 have HT:=hid (zTG (M0.out.now b0) (by omega));have x0:=pa.at (i:=0) rfl;have x1:=pa.at (i:=1) rfl;have x2:=pa.at (i:=2) rfl;rw [←hW] at x0 x1 x2;have G0:=hid b0;have EW:=hid hW;clear h hla b0 sz0 hW pa M0;go_enter Tryz.func6,Tryz.ntmps6;go_wp2_with fail;rw [EW.out];clear EW x0 x1 x2;refine HT.out.mono ?_;rintro e w1 ⟨v1,rfl,m,b⟩;obtain ⟨a1,q1,rfl,-,-⟩:=m.mx.form;obtain ⟨lb,hlb⟩:∃lb,r*r=lb:=⟨_,rfl⟩
 rw [hlb] at m ⊢;obtain ⟨V1,hV⟩:∃V1,w1.alloc (.cells #[.int .i64 (r:Int),.int .i64 (r:Int),.slice a1 lb q1] 24)=V1:=⟨_,rfl⟩
 obtain ⟨bv,szv⟩:=alo1 w1 (.cells #[.int .i64 (r:Int),.int .i64 (r:Int),.slice a1 lb q1] 24);rw [hV] at bv szv;have PC:Hid (Cel V1 w1.heap.size 24 [.int .i64 (r:Int),.int .i64 (r:Int),.slice a1 lb q1]):=by unfold Hid;rw [←hV];exact Cel.new w1 _ _
 have G1:=hid (zBA (zBA G0.out b) bv);have HM:=hid (zPH (m.mx.now bv) hk);have y0:=PC.out.at (i:=0) rfl;have y1:=PC.out.at (i:=1) rfl;have y2:=PC.out.at (i:=2) rfl;rw [←hV] at y0 y1 y2;have EV:=hid hV;clear HT b bv szv hV PC G0 m hlb;go_wp2_with fail;rw [EV.out];clear EV y0 y1 y2;refine HM.out.mono ?_;rintro e w2 ⟨lv,qs,rfl,m1,m2,b⟩;have FIN:Hid (zgG w r (zbE r c zs) (64*(k+k+c)+7) (.returned (.tuple #[lv,.int .i64 0])) w2):=⟨_,_,rfl,zGB m1 G1.out.size,m2,zBA G1.out b⟩
 clear HM m1 m2 b G1;go_wp2;go_ret2;exact FIN.out
theorem zPG {w:World} {v u:Value} {z y:Int} {k l:Nat} (h:Zc w v z k) (h':Zc w u y l) (hzy:z=y) :
  Calls Tryz.prog 16 #[v,u] w fun e w'=>e=.returned (.bool true)∧Below w.heap.size w w':=by
 subst hzy;obtain ⟨n,xs,a,c,rfl,s0,q0,e0,z0,k0⟩:=h;obtain ⟨m,ys,b,d,rfl,s1,q1,e1,z1,k1⟩:=h';obtain ⟨rfl,rfl⟩:=iv_one (z0.trans z1.symm) q0 q1 e0 e1;obtain ⟨W0,hW⟩:∃W0,(w.alloc (duo (.bool n) (.slice a xs.length c))).alloc (duo (.bool n) (.slice b xs.length d))=W0:=⟨_,rfl⟩
 have b0:=(zjA w (duo (.bool n) (.slice a xs.length c)) (duo (.bool n) (.slice b xs.length d))).1;rw [hW] at b0;have P2:Hid (Duo W0 w.heap.size (.bool n) (.slice a xs.length c)):=by unfold Hid;rw [←hW];exact (Duo.new w _ _).later (by simp) _
 have P3:Hid (Duo W0 (w.heap.size+1) (.bool n) (.slice b xs.length d)):=by
  unfold Hid;rw [←hW];have:=Duo.new (w.alloc (duo (.bool n) (.slice a xs.length c))) (.bool n) (.slice b xs.length d)
  simpa using this
 have HC:=hid (same_yes (s0.now b0) (s1.now b0) rfl);have B0:=hid b0;have x0:=P2.out.c0;have y0:=P3.out.c0;have x1:=P2.out.c1;have y1:=P3.out.c1;rw [←hW] at x0 y0 x1 y1;have EW:=hid hW;have hq:(n == n)=true:=by simp
 clear s0 s1 z0 z1 b0 q0 q1 e0 e1 hW;go_enter Tryz.func16,Tryz.ntmps16;go_wp2_with fail;rw [EW.out];refine HC.out.mono ?_;rintro e w1 ⟨rfl,b1⟩;have B1:=hid (zBA B0.out b1);clear b1 HC x0 y0 x1 y1 EW;go_wp2;go_ret;exact ⟨rfl,B1.out⟩
theorem zPC {w:World} {va vb:Value} {ps qs:List (Value×Value)} {k l:Nat} {zs ys:List Int} (ha:Prs 0 w va ps) (hza:Zcs w ps zs k) (hb:Prs 0 w vb qs) (hzb:Zcs w qs ys l) (he:zs=ys) :
  Calls Tryz.prog 13 #[va,vb] w fun e w'=>e=.returned (.bool true)∧Below w.heap.size w w':=by
 subst he;obtain ⟨aa,ca,rfl,hca,hna,-,hfa⟩:=ha.form;obtain ⟨ab,cb,rfl,hcb,hnb,-,hfb⟩:=hb.form;obtain ⟨n,hn⟩:∃n,zs.length=n:=⟨_,rfl⟩
 have ea:ps.length=n:=hza.1.trans hn;have eb:qs.length=n:=hzb.1.trans hn;have A0:=hid ha;have B0:=hid hb;rw [ea] at A0 hna hca ⊢;rw [eb] at B0 hnb hcb ⊢;have q2:((n:Int) != (n:Int))=false:=by simp
 have ZA:=hid hza;have ZB:=hid hzb;have FA:Hid (n≠0→∃b off,aa=some ⟨b,off,none⟩):=fun h=>by
  obtain ⟨b,off,e,-⟩:=hfa (fun e=>h (by rw [←ea,e];rfl));exact ⟨b,off,e⟩
 have FB:Hid (n≠0→∃b off,ab=some ⟨b,off,none⟩):=fun h=>by
  obtain ⟨b,off,e,-⟩:=hfb (fun e=>h (by rw [←eb,e];rfl));exact ⟨b,off,e⟩
 have HN:=hid hn;have H0:Hid (zmI w n n (.int .i64 0) w):=⟨0,rfl,Nat.zero_le _,by omega,Below.refl _ _⟩
 clear ha hza hb hzb hfa hfb hn ea eb;go_enter Tryz.func13,Tryz.ntmps13;go_wp2_with fail
 go_loopg [5] n (fun gk s5 wx=>zmI w n gk s5 wx)
 case atStart=>exact H0.out
 case round =>
  clear H0;obtain ⟨i,rfl,hin,hg,hG⟩:=hrel;have G:=hid hG;have HG:=hid hg;clear hG hg
  by_cases hlt:i<n
  ·have hlt':(i:Int)<(n:Int):=by omega
   obtain ⟨b1,o1,rfl⟩:=FA.out (by omega);obtain ⟨b2,o2,rfl⟩:=FB.out (by omega);obtain ⟨nf,xf,adf,qf,k0,k1,zf⟩:=Zcs.at9 (A0.out.now G.out) (ZA.out.now G.out) (i:=i) (by rw [HN.out];exact hlt);obtain ⟨ng,xg,adg,qg,k2,k3,zg⟩:=Zcs.at9 (B0.out.now G.out) (ZB.out.now G.out) (i:=i) (by rw [HN.out];exact hlt);have HS:Hid (∀w',Below wr.heap.size wr w'→Calls Tryz.prog 16 #[.agg #[.bool nf,.slice adf xf.length qf],.agg #[.bool ng,.slice adg xg.length qg]] w' fun e w''=>e=.returned (.bool true)∧Below w'.heap.size w' w''):=fun w' h=>zPG (zf.now h) (zg.now h) rfl
   clear zf zg;have hw:=zNA (i:=i) (by omega);go_wp2_with fail;have KB:Hid (∀w',Below wr.heap.size wr w'→w'.cell? ⟨b1,o1+i*2,none⟩=some (.bool nf)∧w'.cell? ⟨b1,o1+i*2+1,none⟩=some (.slice adf xf.length qf)∧w'.cell? ⟨b2,o2+i*2,none⟩=some (.bool ng)∧w'.cell? ⟨b2,o2+i*2+1,none⟩=some (.slice adg xg.length qg)):=fun w' h=>⟨cnow h k0,cnow h k1,cnow h k2,cnow h k3⟩
   refine zDA (fun w'=>w'.cell? ⟨b1,o1+i*2,none⟩=some (.bool nf)∧w'.cell? ⟨b1,o1+i*2+1,none⟩=some (.slice adf xf.length qf)∧w'.cell? ⟨b2,o2+i*2,none⟩=some (.bool ng)∧w'.cell? ⟨b2,o2+i*2+1,none⟩=some (.slice adg xg.length qg)) 9 (by kernel_rfl) ?_;obtain ⟨D1,hD⟩:∃D1,wr.drew=D1:=⟨_,rfl⟩
   have GB:Hid (Below wr.heap.size wr D1):=by unfold Hid;rw [←hD];exact (Below.refl _ _).drew
   rw [hD];clear hD;refine zAA (i:=0) (oi:=⟨some 17,.move (.tmp 0),22, "keep.go:21",#[],none⟩) (v:=(.slice (some ⟨b1,o1,none⟩) n ca)) rfl (by kernel_rfl) (fun _ _ _ h=>h) (Or.inl ⟨by rfl,?_⟩) (KB.out _ GB.out) ?_
   ·intro w hSw;(try dsimp only at hSw);go_simp
   simp only [Act.put,sIb,sC0,sC1];refine zAA (i:=1) (oi:=⟨some 18,.move (.tmp 5),3, "keep.go:21",#[],none⟩) (v:=(.int .i64 (i:Int))) rfl (by kernel_rfl) (fun _ _ _ h=>h) (Or.inl ⟨by rfl,?_⟩) (KB.out _ GB.out) ?_
   ·intro w hSw;(try dsimp only at hSw);go_simp
   simp only [Act.put,sIb,sC0,sC1];refine zAA (i:=2) (oi:=⟨some 19,.indexAddr 22 (.tmp 17) (.tmp 18),0, "keep.go:21",#[⟨0,.data⟩,⟨1,.data⟩],none⟩) (v:=(.pointer (some ⟨b1,o1+i*2,none⟩))) rfl (by kernel_rfl) (fun _ _ _ h=>h) (Or.inl ⟨by rfl,?_⟩) (KB.out _ GB.out) ?_
   ·intro w hSw;(try dsimp only at hSw);go_simp
   simp only [Act.put,sIb,sC0,sC1];refine zAA (i:=3) (oi:=⟨some 20,.load 39 (.tmp 19),39, "keep.go:21",#[⟨2,.data⟩],none⟩) (v:=(.agg #[.bool nf,.slice adf xf.length qf])) rfl (by kernel_rfl) (fun _ _ _ h=>h) (Or.inl ⟨by rfl,?_⟩) (KB.out _ GB.out) ?_
   ·intro w hSw;(try dsimp only at hSw);go_simp
   simp only [Act.put,sIb,sC0,sC1];refine zAA (i:=4) (oi:=⟨some 21,.move (.tmp 1),22, "keep.go:21",#[],none⟩) (v:=(.slice (some ⟨b2,o2,none⟩) n cb)) rfl (by kernel_rfl) (fun _ _ _ h=>h) (Or.inl ⟨by rfl,?_⟩) (KB.out _ GB.out) ?_
   ·intro w hSw;(try dsimp only at hSw);go_simp
   simp only [Act.put,sIb,sC0,sC1];refine zAA (i:=5) (oi:=⟨some 22,.move (.tmp 5),3, "keep.go:21",#[],none⟩) (v:=(.int .i64 (i:Int))) rfl (by kernel_rfl) (fun _ _ _ h=>h) (Or.inl ⟨by rfl,?_⟩) (KB.out _ GB.out) ?_
   ·intro w hSw;(try dsimp only at hSw);go_simp
   simp only [Act.put,sIb,sC0,sC1];refine zAA (i:=6) (oi:=⟨some 23,.indexAddr 22 (.tmp 21) (.tmp 22),0, "keep.go:21",#[⟨4,.data⟩,⟨5,.data⟩],none⟩) (v:=(.pointer (some ⟨b2,o2+i*2,none⟩))) rfl (by kernel_rfl) (fun _ _ _ h=>h) (Or.inl ⟨by rfl,?_⟩) (KB.out _ GB.out) ?_
   ·intro w hSw;(try dsimp only at hSw);go_simp
   simp only [Act.put,sIb,sC0,sC1];refine zAA (i:=7) (oi:=⟨some 24,.load 39 (.tmp 23),39, "keep.go:21",#[⟨6,.data⟩],none⟩) (v:=(.agg #[.bool ng,.slice adg xg.length qg])) rfl (by kernel_rfl) (fun _ _ _ h=>h) (Or.inl ⟨by rfl,?_⟩) (KB.out _ GB.out) ?_
   ·intro w hSw;(try dsimp only at hSw);go_simp
   simp only [Act.put,sIb,sC0,sC1];refine zCA (i:=8) (o:=⟨some 25,.call { callee:=.value (.func 16),args:=#[.tmp 20,.tmp 24],argTypes:=#[39,39] },4, "keep.go:21",#[⟨3,.data⟩,⟨7,.data⟩],none⟩) (by kernel_rfl) rfl (fun K hK=>?_);go_simp;go_at_call 16;refine (HS.out _ GB.out).mono ?_;rintro e w2 ⟨rfl,b⟩;have lz2:=(show Below _ _ _ from b).size;replace GB:=hid (zBA GB.out b);have G1:=hid (zBA G.out GB.out);clear b;refine hK.out _ _ (fun _=>KB.out _ GB.out) ?_;clear hK;refine zCA (i:=9) (o:=⟨some 26,.unOp .not 4 (.tmp 25),4, "keep.go:21",#[⟨8,.data⟩],none⟩) (by kernel_rfl) rfl (fun K hK=>?_);go_simp;refine hK.out _ _ (fun h=>absurd h (by decide)) ?_;clear hK
   try simp only [Act.put]
   refine zFA (by kernel_rfl) ?_ _;have HN1:Hid (zmI w n (n-(i+1)) (.int .i64 ((i+1:Nat):Int)) w2):=⟨i+1,rfl,by omega,rfl,G1.out⟩
   have HMM:Hid (n-(i+1)<gk):=by unfold Hid;rw [HG.out];omega
   clear HS G HG G1 GB KB k0 k1 k2 k3;go_wp2_with fail;go_roundg (n-(i+1))
   case rel=>exact HN1.out
   case measure=>exact HMM.out
  ·have hlt':¬(i:Int)<(n:Int):=by omega
   have FIN:=hid G.out;clear HG G;go_wp2;go_ret;exact ⟨rfl,FIN.out⟩
theorem likeMat_yes {w:World} {va vb:Value} {r c k l:Nat} {zs ys:List Int} (ha:Mc w va r c zs k) (hb:Mc w vb r c ys l) (he:zs=ys) :
  Calls Tryz.prog 12 #[va,vb] w fun e w'=>e=.returned (.bool true)∧Below w.heap.size w w':=by
 obtain ⟨ata,ps,rfl,pa1,pa2,-,-,-⟩:=ha;obtain ⟨atb,qs,rfl,pb1,pb2,-,-,-⟩:=hb;obtain ⟨W0,hW⟩:∃W0,(w.alloc (matO r c ata)).alloc (matO r c atb)=W0:=⟨_,rfl⟩
 obtain ⟨b0,sz0⟩:=zjA w (matO r c ata) (matO r c atb);rw [hW] at b0 sz0;have HR:=hid (zPC (pa1.now b0) (pa2.now b0) (pb1.now b0) (pb2.now b0) he);obtain ⟨aa,ca,rfl,-,-,-,-⟩:=pa1.form;obtain ⟨ab,cb,rfl,-,-,-,-⟩:=pb1.form;generalize ps.length=na at *;generalize qs.length=nb at *;have pa:Cel W0 w.heap.size 24 (matc r c (.slice aa na ca)):=by
  rw [←hW];exact (Cel.new w 24 (matc r c (.slice aa na ca))).step ((Below.refl _ _).alloc (Nat.le_refl _) _)
 have pb:Cel W0 (w.heap.size+1) 24 (matc r c (.slice ab nb cb)):=by
  rw [←hW];have:=Cel.new (w.alloc (matO r c (.slice aa na ca))) 24 (matc r c (.slice ab nb cb))
  simpa using this
 have x0:=pa.at (i:=0) rfl;have x1:=pa.at (i:=1) rfl;have x2:=pa.at (i:=2) rfl;have y0:=pb.at (i:=0) rfl;have y1:=pb.at (i:=1) rfl;have y2:=pb.at (i:=2) rfl;rw [←hW] at x0 x1 x2 y0 y1 y2;have q0:((r:Int) == (r:Int))=true:=by simp
 have q1:((c:Int) == (c:Int))=true:=by simp
 have G0:=hid b0;have EW:=hid hW;clear pa1 pa2 pb1 pb2 b0 sz0 hW pa pb;go_enter Tryz.func12,Tryz.ntmps12;go_wp2_with fail;rw [EW.out];refine HR.out.mono ?_;rintro e w1 ⟨rfl,b⟩;have FIN:=hid (zBA G0.out b);clear x0 x1 x2 y0 y1 y2 EW b HR G0;go_wp2;go_ret;exact ⟨rfl,FIN.out⟩
instance snd11 (r c:Int) (l:Nat):Decidable (Snd r c l):=by unfold Snd;infer_instance
theorem zHG {w:World} {r c:Int} {a:Option Addr} {l cap:Nat}:Calls Tryz.prog 7 #[.agg #[.int .i64 r,.int .i64 c,.slice a l cap]] w fun e w'=>e=.returned (.int .i64 (if Snd r c l then 0 else 1))∧Below w.heap.size w w':=by
 obtain ⟨W0,hW⟩:∃W0,w.alloc (.cells #[.int .i64 r,.int .i64 c,.slice a l cap] 24)=W0:=⟨_,rfl⟩
 obtain ⟨b0,sz0⟩:=alo1 w (.cells #[.int .i64 r,.int .i64 c,.slice a l cap] 24);rw [hW] at b0 sz0;have P1:Hid (Cel W0 w.heap.size 24 [.int .i64 r,.int .i64 c,.slice a l cap]):=by unfold Hid;rw [←hW];exact Cel.new w _ _
 have x0:=P1.out.at (i:=0) rfl;have x1:=P1.out.at (i:=1) rfl;have x2:=P1.out.at (i:=2) rfl;rw [←hW] at x0 x1 x2;have G0:=hid b0;have EW:=hid hW;clear b0 sz0 hW P1
 by_cases h1:r<0
 ·have e:(if Snd r c l then (0:Int) else 1)=1:=if_neg (fun h=>by have:=h.1;omega)
  rw [e];clear e;go_enter Tryz.func7,Tryz.ntmps7;go_wp2;rw [EW.out];go_ret;exact ⟨rfl,G0.out⟩
 by_cases h2:64<r
 ·have e:(if Snd r c l then (0:Int) else 1)=1:=if_neg (fun h=>by have:=h.2.1;omega)
  rw [e];clear e;go_enter Tryz.func7,Tryz.ntmps7;go_wp2;rw [EW.out];go_ret;exact ⟨rfl,G0.out⟩
 by_cases h3:c<0
 ·have e:(if Snd r c l then (0:Int) else 1)=1:=if_neg (fun h=>by have:=h.2.2.1;omega)
  rw [e];clear e;go_enter Tryz.func7,Tryz.ntmps7;go_wp2;rw [EW.out];go_ret;exact ⟨rfl,G0.out⟩
 by_cases h4:64<c
 ·have e:(if Snd r c l then (0:Int) else 1)=1:=if_neg (fun h=>by have:=h.2.2.2.1;omega)
  rw [e];clear e;go_enter Tryz.func7,Tryz.ntmps7;go_wp2;rw [EW.out];go_ret;exact ⟨rfl,G0.out⟩
 have hm:0≤r*c∧r*c≤64*64:=⟨Int.mul_nonneg (by omega) (by omega),Int.mul_le_mul (by omega) (by omega) (by omega) (by omega)⟩
 have hw:IntKind.i64.wrap (r*c)=r*c:=by rw [zaA] <;> omega
 obtain ⟨q,hq⟩:∃q,r*c=q:=⟨_,rfl⟩
 replace hw:IntKind.i64.wrap (r*c)=q:=hw.trans hq;have hw2:=hw;rw [IntKind.wrap_i64] at hw2
 by_cases h5:(l:Int)=q
 ·have e:(if Snd r c l then (0:Int) else 1)=0:=if_pos ⟨by omega,by omega,by omega,by omega,h5.trans hq.symm⟩
  rw [e];have q0:((l:Int) != q)=false:=by simpa using h5
  clear e hm hq;go_enter Tryz.func7,Tryz.ntmps7;go_wp2;rw [EW.out];go_ret;exact ⟨rfl,G0.out⟩
 ·have e:(if Snd r c l then (0:Int) else 1)=1:=if_neg (fun h=>h5 (h.2.2.2.2.trans hq))
  rw [e];have q0:((l:Int) != q)=true:=by simpa using h5
  clear e hm hq;go_enter Tryz.func7,Tryz.ntmps7;go_wp2;rw [EW.out];go_ret;exact ⟨rfl,G0.out⟩
theorem mx_four {V:World} {g:Nat} {n0 n1 n2 n3:Bool} {a0 a1 a2 a3:Option Addr} {l0 l1 l2 l3 c0 c1 c2 c3:Nat} {z0 z1 z2 z3:Int} {k:Nat} (d:Cel V g 39 [.bool n0,.slice a0 l0 c0,.bool n1,.slice a1 l1 c1,.bool n2,.slice a2 l2 c2,.bool n3,.slice a3 l3 c3])
  (h0:Zi V (.agg #[.bool n0,.slice a0 l0 c0]) z0 k) (h1:Zi V (.agg #[.bool n1,.slice a1 l1 c1]) z1 k) (h2:Zi V (.agg #[.bool n2,.slice a2 l2 c2]) z2 k) (h3:Zi V (.agg #[.bool n3,.slice a3 l3 c3]) z3 k) :
  Mx V (.agg #[.int .i64 2,.int .i64 2,.slice (some ⟨g,0,none⟩) 4 4]) 2 2 [z0,z1,z2,z3] k:=by
 have ar:Arr V g [(.bool n0,.slice a0 l0 c0),(.bool n1,.slice a1 l1 c1),(.bool n2,.slice a2 l2 c2),(.bool n3,.slice a3 l3 c3)]:=⟨d,fun p hp=>by
  simp at hp;rcases hp with rfl | rfl | rfl | rfl <;> exact ⟨_,_,_,_,rfl⟩⟩
 refine ⟨_,_,rfl,ar.prs (Nat.zero_le _) (by simp) (Nat.le_refl _),⟨rfl,fun j p z hp hz=>?_⟩,rfl,by decide,by decide⟩
 match j,hp,hz with
 | 0,hp,hz=>simp at hp hz;subst hp hz;exact h0
 | 1,hp,hz=>simp at hp hz;subst hp hz;exact h1
 | 2,hp,hz=>simp at hp hz;subst hp hz;exact h2
 | 3,hp,hz=>simp at hp hz;subst hp hz;exact h3
 | j+4,hp,hz=>simp at hp
end Go.Proofs.YtjnokjgbeploaaaGreat
