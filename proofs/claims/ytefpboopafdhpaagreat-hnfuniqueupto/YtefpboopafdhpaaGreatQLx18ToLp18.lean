/-
 QLx18ToLp18: Lx18, Lp18, joined.
-/
import Derived.Test.YtefpboopafdhpaaGreatQFil9ToRowsOf9
import Derived.Test.YtefpboopafdhpaaGreatQEachM11ToRows11
import Derived.Test.YtefpboopafdhpaaGreatQLm6ToLeastA9
import Derived.Test.YtefpboopafdhpaaGreatQAr18ToR5Cmp
import Derived.Test.YtefpboopafdhpaaGreatQUf18ToAdd11
import Derived.Test.YtefpboopafdhpaaGreatQRm12ToLa18

set_option maxRecDepth 100000
set_option maxHeartbeats 6400000
set_option linter.unusedVariables false
set_option linter.unusedSimpArgs false
namespace Go.Proofs.YtefpboopafdhpaaGreat
open Go.RowKit
theorem alikeX18_yes {w:World} {v u:Value} {z y:Int} {k l:Nat} (h:Zc w v z k) (h':Zc w u y l) (hzy:z=y) :
  Calls Tryz.prog 34 #[v,u] w fun e w'=>e=.returned (.bool true)∧Below w.heap.size w w':=by
 subst hzy;obtain ⟨n,xs,a,c,rfl,s0,q0,e0,z0,k0⟩:=h;obtain ⟨m,ys,b,d,rfl,s1,q1,e1,z1,k1⟩:=h';obtain ⟨rfl,rfl⟩:=znH (z0.trans z1.symm) q0 q1 e0 e1;obtain ⟨W0,hW⟩:∃W0,(w.alloc (duo (.bool n) (.slice a xs.length c))).alloc (duo (.bool n) (.slice b xs.length d))=W0:=⟨_,rfl⟩
 have b0:=(zSA w (duo (.bool n) (.slice a xs.length c)) (duo (.bool n) (.slice b xs.length d))).1;rw [hW] at b0;have P2:Hid (Duo W0 w.heap.size (.bool n) (.slice a xs.length c)):=by unfold Hid;rw [←hW];exact (Duo.new w _ _).later (by simp) _
 have P3:Hid (Duo W0 (w.heap.size+1) (.bool n) (.slice b xs.length d)):=by
  unfold Hid;rw [←hW];have:=Duo.new (w.alloc (duo (.bool n) (.slice a xs.length c))) (.bool n) (.slice b xs.length d)
  simpa using this
 have HC:=hid (same_yes (s0.now b0) (s1.now b0) rfl);have B0:=hid b0;have x1:=P2.out.c1;have y1:=P3.out.c1;rw [←hW] at x1 y1;have EW:=hid hW;have hq:(n == n)=true:=by simp
 clear s0 s1 z0 z1 b0 q0 q1 e0 e1 hW;go_enter Tryz.func34,Tryz.ntmps34;go_wp2_with fail;rw [EW.out];refine HC.out.mono ?_;rintro e w1 ⟨rfl,b1⟩;have B1:=hid (below_step B0.out b1);have x0:=(P2.out.step b1).c0;have y0:=(P3.out.step b1).c0;clear b1 HC x1 y1 EW;go_wp2;go_ret;exact ⟨rfl,B1.out⟩
theorem alikeRowsX18_yes {w:World} {B B' k l:Nat} {va vb:Value} {ps qs:List (Value×Value)} {zs:List Int} (ha:Prs B w va ps) (hza:Zcs w ps zs k) (hb:Prs B' w vb qs) (hzb:Zcs w qs zs l) :
  Calls Tryz.prog 19 #[va,vb] w fun e w'=>e=.returned (.bool true)∧Below w.heap.size w w':=by
 have A0:=hid ha;have B0:=hid hb;have ZA:=hid hza;have ZB:=hid hzb;obtain ⟨aa,ca,rfl,hca,hna,-,hfa⟩:=ha.form;obtain ⟨ab,cb,rfl,hcb,hnb,-,hfb⟩:=hb.form;obtain ⟨n,hn⟩:∃n,zs.length=n:=⟨_,rfl⟩
 rw [hza.1,hn] at A0 hca hna ⊢;rw [hzb.1,hn] at B0 hcb hnb ⊢;have FA:Hid (n≠0→∃b off,aa=some ⟨b,off,none⟩):=fun h=>by
  obtain ⟨b,off,e,-⟩:=hfa (fun e=>h (by rw [←hn,←hza.1,e];rfl));exact ⟨b,off,e⟩
 have FB:Hid (n≠0→∃b off,ab=some ⟨b,off,none⟩):=fun h=>by
  obtain ⟨b,off,e,-⟩:=hfb (fun e=>h (by rw [←hn,←hzb.1,e];rfl));exact ⟨b,off,e⟩
 have HN:=hid hn;have H0:Hid (zFI w n n (.int .i64 0) w):=⟨0,rfl,Nat.zero_le _,by omega,Below.refl _ _⟩
 have q0:((n:Int) != (n:Int))=false:=by simp
 clear ha hb hza hzb hfa hfb hn;go_enter Tryz.func19,Tryz.ntmps19;go_wp2_with fail
 go_loopg [5] n (fun gk s5 wx=>zFI w n gk s5 wx)
 case atStart=>exact H0.out
 case round =>
  clear H0;obtain ⟨i,rfl,hin,hg,hG⟩:=hrel;have G:=hid hG;have HG:=hid hg;clear hG hg
  by_cases hlt:i<n
  ·have hlt':(i:Int)<(n:Int):=by omega
   obtain ⟨b1,o1,rfl⟩:=FA.out (by omega);obtain ⟨b2,o2,rfl⟩:=FB.out (by omega);obtain ⟨nf,xf,adf,qf,k0,k1,zf⟩:=Zcs.at9 (A0.out.now G.out) (ZA.out.now G.out) (i:=i) (by rw [HN.out];exact hlt);obtain ⟨ng,xg,adg,qg,k2,k3,zg⟩:=Zcs.at9 (B0.out.now G.out) (ZB.out.now G.out) (i:=i) (by rw [HN.out];exact hlt);have HS:Hid (∀w',Below wr.heap.size wr w'→Calls Tryz.prog 34 #[.agg #[.bool nf,.slice adf xf.length qf],.agg #[.bool ng,.slice adg xg.length qg]] w' fun e w''=>e=.returned (.bool true)∧Below w'.heap.size w' w''):=fun w' h=>alikeX18_yes (zf.now h) (zg.now h) rfl
   clear zf zg;have hw:=zYA (i:=i) (by omega);go_wp2_with fail;have KB:Hid (∀w',Below wr.heap.size wr w'→w'.cell? ⟨b1,o1+i*2,none⟩=some (.bool nf)∧w'.cell? ⟨b1,o1+i*2+1,none⟩=some (.slice adf xf.length qf)∧w'.cell? ⟨b2,o2+i*2,none⟩=some (.bool ng)∧w'.cell? ⟨b2,o2+i*2+1,none⟩=some (.slice adg xg.length qg)):=fun w' h=>⟨cnow h k0,cnow h k1,cnow h k2,cnow h k3⟩
   refine zFA (fun w'=>w'.cell? ⟨b1,o1+i*2,none⟩=some (.bool nf)∧w'.cell? ⟨b1,o1+i*2+1,none⟩=some (.slice adf xf.length qf)∧w'.cell? ⟨b2,o2+i*2,none⟩=some (.bool ng)∧w'.cell? ⟨b2,o2+i*2+1,none⟩=some (.slice adg xg.length qg)) 9 (by kernel_rfl) ?_;obtain ⟨D1,hD⟩:∃D1,wr.drew=D1:=⟨_,rfl⟩
   have GB:Hid (Below wr.heap.size wr D1):=by unfold Hid;rw [←hD];exact (Below.refl _ _).drew
   rw [hD];clear hD;refine zBA (i:=0) (oi:=⟨some 18,.move (.tmp 0),22, "law.go:95",#[],none⟩) (v:=(.slice (some ⟨b1,o1,none⟩) n ca)) rfl (by kernel_rfl) (fun _ _ _ h=>h) (Or.inl ⟨by rfl,?_⟩) (KB.out _ GB.out) ?_
   ·intro w hSw;(try dsimp only at hSw);go_simp
   simp only [Act.put,sIb,sC0,sC1];refine zBA (i:=1) (oi:=⟨some 19,.move (.tmp 5),3, "law.go:95",#[],none⟩) (v:=(.int .i64 (i:Int))) rfl (by kernel_rfl) (fun _ _ _ h=>h) (Or.inl ⟨by rfl,?_⟩) (KB.out _ GB.out) ?_
   ·intro w hSw;(try dsimp only at hSw);go_simp
   simp only [Act.put,sIb,sC0,sC1];refine zBA (i:=2) (oi:=⟨some 20,.indexAddr 22 (.tmp 18) (.tmp 19),0, "law.go:95",#[⟨0,.data⟩,⟨1,.data⟩],none⟩) (v:=(.pointer (some ⟨b1,o1+i*2,none⟩))) rfl (by kernel_rfl) (fun _ _ _ h=>h) (Or.inl ⟨by rfl,?_⟩) (KB.out _ GB.out) ?_
   ·intro w hSw;(try dsimp only at hSw);go_simp
   simp only [Act.put,sIb,sC0,sC1];refine zBA (i:=3) (oi:=⟨some 21,.load 41 (.tmp 20),41, "law.go:95",#[⟨2,.data⟩],none⟩) (v:=(.agg #[.bool nf,.slice adf xf.length qf])) rfl (by kernel_rfl) (fun _ _ _ h=>h) (Or.inl ⟨by rfl,?_⟩) (KB.out _ GB.out) ?_
   ·intro w hSw;(try dsimp only at hSw);go_simp
   simp only [Act.put,sIb,sC0,sC1];refine zBA (i:=4) (oi:=⟨some 22,.move (.tmp 1),22, "law.go:95",#[],none⟩) (v:=(.slice (some ⟨b2,o2,none⟩) n cb)) rfl (by kernel_rfl) (fun _ _ _ h=>h) (Or.inl ⟨by rfl,?_⟩) (KB.out _ GB.out) ?_
   ·intro w hSw;(try dsimp only at hSw);go_simp
   simp only [Act.put,sIb,sC0,sC1];refine zBA (i:=5) (oi:=⟨some 23,.move (.tmp 5),3, "law.go:95",#[],none⟩) (v:=(.int .i64 (i:Int))) rfl (by kernel_rfl) (fun _ _ _ h=>h) (Or.inl ⟨by rfl,?_⟩) (KB.out _ GB.out) ?_
   ·intro w hSw;(try dsimp only at hSw);go_simp
   simp only [Act.put,sIb,sC0,sC1];refine zBA (i:=6) (oi:=⟨some 24,.indexAddr 22 (.tmp 22) (.tmp 23),0, "law.go:95",#[⟨4,.data⟩,⟨5,.data⟩],none⟩) (v:=(.pointer (some ⟨b2,o2+i*2,none⟩))) rfl (by kernel_rfl) (fun _ _ _ h=>h) (Or.inl ⟨by rfl,?_⟩) (KB.out _ GB.out) ?_
   ·intro w hSw;(try dsimp only at hSw);go_simp
   simp only [Act.put,sIb,sC0,sC1];refine zBA (i:=7) (oi:=⟨some 25,.load 41 (.tmp 24),41, "law.go:95",#[⟨6,.data⟩],none⟩) (v:=(.agg #[.bool ng,.slice adg xg.length qg])) rfl (by kernel_rfl) (fun _ _ _ h=>h) (Or.inl ⟨by rfl,?_⟩) (KB.out _ GB.out) ?_
   ·intro w hSw;(try dsimp only at hSw);go_simp
   simp only [Act.put,sIb,sC0,sC1];refine zAA (i:=8) (o:=⟨some 26,.call { callee:=.value (.func 34),args:=#[.tmp 21,.tmp 25],argTypes:=#[41,41] },4, "law.go:95",#[⟨3,.data⟩,⟨7,.data⟩],none⟩) (by kernel_rfl) rfl (fun K hK=>?_);go_simp;go_at_call 34;refine (HS.out _ GB.out).mono ?_;rintro e w2 ⟨rfl,b⟩;have lz2:=(show Below _ _ _ from b).size;replace GB:=hid (below_step GB.out b);have G1:=hid (below_step G.out GB.out);clear b;refine hK.out _ _ (fun _=>KB.out _ GB.out) ?_;clear hK;refine zAA (i:=9) (o:=⟨some 6,.assign (.tmp 26),4, "law.go:95",#[⟨8,.data⟩,⟨8,.chain⟩,⟨0,.phase⟩,⟨1,.phase⟩,⟨2,.phase⟩,⟨3,.phase⟩,⟨4,.phase⟩,⟨5,.phase⟩,⟨6,.phase⟩,⟨7,.phase⟩,⟨8,.phase⟩],none⟩) (by kernel_rfl) rfl (fun K hK=>?_);go_simp;refine hK.out _ _ (fun h=>absurd h (by decide)) ?_;clear hK
   try simp only [Act.put]
   refine zDA (by kernel_rfl) ?_ _;have HN1:Hid (zFI w n (n-(i+1)) (.int .i64 ((i+1:Nat):Int)) w2):=⟨i+1,rfl,by omega,rfl,G1.out⟩
   have HMM:Hid (n-(i+1)<gk):=by unfold Hid;rw [HG.out];omega
   clear HS G HG G1 GB KB;go_wp2_with fail;go_roundg (n-(i+1))
   case rel=>exact HN1.out
   case measure=>exact HMM.out
  ·have hlt':¬(i:Int)<(n:Int):=by omega
   clear HG;go_wp2;go_ret;exact ⟨rfl,G.out⟩
theorem zJB {w:World} {va vb:Value} {r c k l:Nat} {zs ys:List Int} (ha:Mc w va r c zs k) (hb:Mc w vb r c ys l) (he:zs=ys) :
  Calls Tryz.prog 8 #[va,vb] w fun e w'=>e=.returned (.bool true)∧Below w.heap.size w w':=by
 subst he;obtain ⟨ata,pa,rfl,pa1,pa2,-,-,-⟩:=ha;obtain ⟨atb,pb,rfl,pb1,pb2,-,-,-⟩:=hb;obtain ⟨W0,hW⟩:∃W0,(w.alloc (matO r c ata)).alloc (matO r c atb)=W0:=⟨_,rfl⟩
 obtain ⟨b0,sz0⟩:=zSA w (matO r c ata) (matO r c atb);rw [hW] at b0;have qa:Cel W0 w.heap.size 24 (matc r c ata):=by
  rw [←hW];exact (Cel.new w 24 (matc r c ata)).step ((Below.refl _ _).alloc (Nat.le_refl _) _)
 have qb:Cel W0 (w.heap.size+1) 24 (matc r c atb):=by
  rw [←hW];have:=Cel.new (w.alloc (matO r c ata)) 24 (matc r c atb)
  simpa using this
 have HS:=hid (alikeRowsX18_yes (pa1.now b0) (pa2.now b0) (pb1.now b0) (pb2.now b0));obtain ⟨aa,ca,rfl,-,-,-,-⟩:=pa1.form;obtain ⟨ab,cb,rfl,-,-,-,-⟩:=pb1.form;have x2:=qa.at (i:=2) rfl;have y2:=qb.at (i:=2) rfl;rw [←hW] at x2 y2;have QA:=hid qa;have QB:=hid qb;have q0:((r:Int) == (r:Int))=true:=by simp
 have q1:((c:Int) == (c:Int))=true:=by simp
 have G0:=hid b0;have EW:=hid hW;clear b0 sz0 hW qa qb pa1 pa2 pb1 pb2;go_enter Tryz.func8,Tryz.ntmps8;go_wp2_with fail;rw [EW.out];refine HS.out.mono ?_;rintro e w1 ⟨rfl,b⟩;have x0:=(QA.out.step b).at (i:=0) rfl;have x1:=(QA.out.step b).at (i:=1) rfl;have y0:=(QB.out.step b).at (i:=0) rfl;have y1:=(QB.out.step b).at (i:=1) rfl;have G1:=hid (below_step G0.out b);clear b HS x2 y2 EW QA QB;go_wp2;go_ret;exact ⟨rfl,G1.out⟩
theorem zhE {w:World} {r c:Int} {a:Option Addr} {l cap:Nat} (hl:l≤1048576):Calls Tryz.prog 5 #[.agg #[.int .i64 r,.int .i64 c,.slice a l cap]] w (zSC w r c l):=by
 have b0:=(alo1 w (.cells #[.int .i64 r,.int .i64 c,.slice a l cap] 24)).1;have P1:=Cel.new w 24 [.int .i64 r,.int .i64 c,.slice a l cap];have x0:=P1.at (i:=0) rfl;have x1:=P1.at (i:=1) rfl;have x2:=P1.at (i:=2) rfl;have G0:=hid b0;clear b0 P1
 by_cases h1:0≤r
 case neg =>
  have FIN:Hid (zSC w r c l (.returned (.bool false)) (w.alloc (.cells #[.int .i64 r,.int .i64 c,.slice a l cap] 24))):=⟨false,rfl,⟨(fun e=>by cases e),(fun e=>by unfold Snd at e;omega)⟩,G0.out⟩
  go_enter Tryz.func5,Tryz.ntmps5;go_wp2;go_ret;exact FIN.out
 by_cases h2:r≤64
 case neg =>
  have FIN:Hid (zSC w r c l (.returned (.bool false)) (w.alloc (.cells #[.int .i64 r,.int .i64 c,.slice a l cap] 24))):=⟨false,rfl,⟨(fun e=>by cases e),(fun e=>by unfold Snd at e;omega)⟩,G0.out⟩
  go_enter Tryz.func5,Tryz.ntmps5;go_wp2;go_ret;exact FIN.out
 by_cases h3:0≤c
 case neg =>
  have FIN:Hid (zSC w r c l (.returned (.bool false)) (w.alloc (.cells #[.int .i64 r,.int .i64 c,.slice a l cap] 24))):=⟨false,rfl,⟨(fun e=>by cases e),(fun e=>by unfold Snd at e;omega)⟩,G0.out⟩
  go_enter Tryz.func5,Tryz.ntmps5;go_wp2;go_ret;exact FIN.out
 by_cases h4:c≤64
 case neg =>
  have FIN:Hid (zSC w r c l (.returned (.bool false)) (w.alloc (.cells #[.int .i64 r,.int .i64 c,.slice a l cap] 24))):=⟨false,rfl,⟨(fun e=>by cases e),(fun e=>by unfold Snd at e;omega)⟩,G0.out⟩
  go_enter Tryz.func5,Tryz.ntmps5;go_wp2;go_ret;exact FIN.out
 have hm:0≤r*c∧r*c≤64*64:=⟨Int.mul_nonneg h1 h3,Int.mul_le_mul h2 h4 h3 (by omega)⟩
 have hw:IntKind.i64.wrap (r*c)=r*c:=by rw [zWA] <;> omega
 obtain ⟨q,hq⟩:∃q,r*c=q:=⟨_,rfl⟩
 have HQ:=hid hq;replace hw:IntKind.i64.wrap (r*c)=q:=hw.trans hq;have hw2:=hw;rw [IntKind.wrap_i64] at hw2;rw [hq] at hm
 by_cases h5:(l:Int)=q
 case neg =>
  have h6:((l:Int) == q)=false:=by simpa using h5
  have FIN:Hid (zSC w r c l (.returned (.bool false)) (w.alloc (.cells #[.int .i64 r,.int .i64 c,.slice a l cap] 24))):=⟨false,rfl,⟨(fun e=>by cases e),(fun e=>by unfold Snd at e;rw [HQ.out] at e;exact absurd e.2.2.2.2 h5)⟩,G0.out⟩
  clear hq;go_enter Tryz.func5,Tryz.ntmps5;go_wp2;go_ret;exact FIN.out
 case pos =>
  have h6:((l:Int) == q)=true:=by simpa using h5
  have FIN:Hid (zSC w r c l (.returned (.bool true)) (w.alloc (.cells #[.int .i64 r,.int .i64 c,.slice a l cap] 24))):=⟨true,rfl,⟨fun _=>⟨h1,h2,h3,h4,h5.trans HQ.out.symm⟩,fun _=>rfl⟩,G0.out⟩
  clear hq;go_enter Tryz.func5,Tryz.ntmps5;go_wp2;go_ret;exact FIN.out
def zbH (w:World) (A0:List Value) (wx:World):Prop:=Cel wx w.heap.size 24 A0∧Below w.heap.size w wx
theorem zbH.step {w x y:World} {A0:List Value} (h:zbH w A0 x) (hb:Below x.heap.size x y):zbH w A0 y:=⟨h.1.step hb,below_step h.2 hb⟩
def zNI (W:World) (n:Nat) (F:Nat→Int) (gk:Nat) (s:Value) (wx:World):Prop :=
 ∃c:Nat,s=.int .i64 (c:Int)∧c≤n∧gk=n-c∧(∀j,j<c→F j=0)∧Below W.heap.size W wx
def zfI (W:World) (lo N:Nat) (gk:Nat) (s:Value) (wx:World):Prop :=
 ∃t:Nat,s=.int .i64 (t:Int)∧lo≤t∧t≤N∧gk=N-t∧Below W.heap.size W wx
theorem Ivs.at18 {B:Nat} {w:World} {v:Value} {l:List Nat} (h:Ivs B w v l) {t:Nat} (ht:t<l.length):∃g cap,v=.slice (some ⟨g,0,none⟩) l.length cap∧w.cell? ⟨g,t,none⟩=some (.int .i64 (l.getD t 0:Nat)):=by
 have h0:=h;obtain ⟨q1,⟨q2,q3⟩ | ⟨g,cap,cur,q2,q3,q4,q5,q6⟩⟩:=h
 ·omega
 ·refine ⟨g,cap,q2,?_⟩
  have h1:w.ownsRow B 3 1 (.slice (some ⟨g,0,none⟩) l.length cap) l.length (l.map fun (a:Nat)=>Value.int .i64 (a:Int)):=⟨q1,.inr ⟨g,cap,cur,rfl,q3,q4,q5,q6⟩⟩
  rw [h1.cellAt t (by omega)];simp [ht]
theorem zaF {B b:Nat} {w w':World} {v:Value} {l:List Nat} {L:List Value} (h:Cel w b 24 L) (hI:Ivs B w v l) (hg:w.grownBy w' v.ownBlock):Cel w' b 24 L:=by
 refine (hg.block b h.blk fun q=>?_).trans h;obtain ⟨_,⟨q1,_⟩ | ⟨g',cap',cur,q1,_,q4,_⟩⟩:=hI
 ·rw [q1] at q;cases q
 ·rw [q1] at q
  simp only [Value.ownBlock,Option.some.injEq] at q;subst q;have:=(show w.heap[_]?=_ from h).symm.trans q4;simp at this
end Go.Proofs.YtefpboopafdhpaaGreat
