/-
 QLx18ToMk12: Lx18, Tn12, Vm12, Mi12, Mk12, joined.
-/
import Derived.Test.YtjjpodnjljfheaaGreatQFil9ToRowsOf9
import Derived.Test.YtjjpodnjljfheaaGreatQLi18ToFo18
import Derived.Test.YtjjpodnjljfheaaGreatQChkN9ToLn11
import Derived.Test.YtjjpodnjljfheaaGreatQRm12
import Derived.Test.YtjjpodnjljfheaaGreatQOf11ToTo18
import Derived.StillTail

set_option maxRecDepth 100000
set_option maxHeartbeats 6400000
set_option linter.unusedVariables false
set_option linter.unusedSimpArgs false
namespace Go.Proofs.YtjjpodnjljfheaaGreat
open Go.RowKit
theorem alikeX18_yes {w:World} {v u:Value} {z y:Int} {k l:Nat} (h:Zc w v z k) (h':Zc w u y l) (hzy:z=y) :
  Calls Tryz.prog 55 #[v,u] w fun e w'=>e=.returned (.bool true)∧Below w.heap.size w w':=by
 subst hzy;obtain ⟨n,xs,a,c,rfl,s0,q0,e0,z0,k0⟩:=h;obtain ⟨m,ys,b,d,rfl,s1,q1,e1,z1,k1⟩:=h';obtain ⟨rfl,rfl⟩:=iv_one (z0.trans z1.symm) q0 q1 e0 e1;obtain ⟨W0,hW⟩:∃W0,(w.alloc (duo (.bool n) (.slice a xs.length c))).alloc (duo (.bool n) (.slice b xs.length d))=W0:=⟨_,rfl⟩
 have b0:=(zXA w (duo (.bool n) (.slice a xs.length c)) (duo (.bool n) (.slice b xs.length d))).1;rw [hW] at b0;have P2:Hid (Duo W0 w.heap.size (.bool n) (.slice a xs.length c)):=by unfold Hid;rw [←hW];exact (Duo.new w _ _).later (by simp) _
 have P3:Hid (Duo W0 (w.heap.size+1) (.bool n) (.slice b xs.length d)):=by
  unfold Hid;rw [←hW];have:=Duo.new (w.alloc (duo (.bool n) (.slice a xs.length c))) (.bool n) (.slice b xs.length d)
  simpa using this
 have HC:=hid (same_yes (s0.now b0) (s1.now b0) rfl);have B0:=hid b0;have x1:=P2.out.c1;have y1:=P3.out.c1;rw [←hW] at x1 y1;have EW:=hid hW;have hq:(n == n)=true:=by simp
 clear s0 s1 z0 z1 b0 q0 q1 e0 e1 hW;go_enter Tryz.func55,Tryz.ntmps55;go_wp2_with fail;rw [EW.out];refine HC.out.mono ?_;rintro e w1 ⟨rfl,b1⟩;have B1:=hid (below_step B0.out b1);have x0:=(P2.out.step b1).c0;have y0:=(P3.out.step b1).c0;clear b1 HC x1 y1 EW;go_wp2;go_ret;exact ⟨rfl,B1.out⟩
theorem zXC {w:World} {B B' k l:Nat} {va vb:Value} {ps qs:List (Value×Value)} {zs:List Int} (ha:Prs B w va ps) (hza:Zcs w ps zs k) (hb:Prs B' w vb qs) (hzb:Zcs w qs zs l) :
  Calls Tryz.prog 26 #[va,vb] w fun e w'=>e=.returned (.bool true)∧Below w.heap.size w w':=by
 have A0:=hid ha;have B0:=hid hb;have ZA:=hid hza;have ZB:=hid hzb;obtain ⟨aa,ca,rfl,hca,hna,-,hfa⟩:=ha.form;obtain ⟨ab,cb,rfl,hcb,hnb,-,hfb⟩:=hb.form;obtain ⟨n,hn⟩:∃n,zs.length=n:=⟨_,rfl⟩
 rw [hza.1,hn] at A0 hca hna ⊢;rw [hzb.1,hn] at B0 hcb hnb ⊢;have FA:Hid (n≠0→∃b off,aa=some ⟨b,off,none⟩):=fun h=>by
  obtain ⟨b,off,e,-⟩:=hfa (fun e=>h (by rw [←hn,←hza.1,e];rfl));exact ⟨b,off,e⟩
 have FB:Hid (n≠0→∃b off,ab=some ⟨b,off,none⟩):=fun h=>by
  obtain ⟨b,off,e,-⟩:=hfb (fun e=>h (by rw [←hn,←hzb.1,e];rfl));exact ⟨b,off,e⟩
 have HN:=hid hn;have H0:Hid (zUJ w n n (.int .i64 0) w):=⟨0,rfl,Nat.zero_le _,by omega,Below.refl _ _⟩
 have q0:((n:Int) != (n:Int))=false:=by simp
 clear ha hb hza hzb hfa hfb hn;go_enter Tryz.func26,Tryz.ntmps26;go_wp2_with fail
 go_loopg [5] n (fun gk s5 wx=>zUJ w n gk s5 wx)
 case atStart=>exact H0.out
 case round =>
  clear H0;obtain ⟨i,rfl,hin,hg,hG⟩:=hrel;have G:=hid hG;have HG:=hid hg;clear hG hg
  by_cases hlt:i<n
  ·have hlt':(i:Int)<(n:Int):=by omega
   obtain ⟨b1,o1,rfl⟩:=FA.out (by omega);obtain ⟨b2,o2,rfl⟩:=FB.out (by omega);obtain ⟨nf,xf,adf,qf,k0,k1,zf⟩:=Zcs.at9 (A0.out.now G.out) (ZA.out.now G.out) (i:=i) (by rw [HN.out];exact hlt);obtain ⟨ng,xg,adg,qg,k2,k3,zg⟩:=Zcs.at9 (B0.out.now G.out) (ZB.out.now G.out) (i:=i) (by rw [HN.out];exact hlt);have HS:Hid (∀w',Below wr.heap.size wr w'→Calls Tryz.prog 55 #[.agg #[.bool nf,.slice adf xf.length qf],.agg #[.bool ng,.slice adg xg.length qg]] w' fun e w''=>e=.returned (.bool true)∧Below w'.heap.size w' w''):=fun w' h=>alikeX18_yes (zf.now h) (zg.now h) rfl
   clear zf zg;have hw:=zbA (i:=i) (by omega);go_wp2_with fail;have KB:Hid (∀w',Below wr.heap.size wr w'→w'.cell? ⟨b1,o1+i*2,none⟩=some (.bool nf)∧w'.cell? ⟨b1,o1+i*2+1,none⟩=some (.slice adf xf.length qf)∧w'.cell? ⟨b2,o2+i*2,none⟩=some (.bool ng)∧w'.cell? ⟨b2,o2+i*2+1,none⟩=some (.slice adg xg.length qg)):=fun w' h=>⟨cnow h k0,cnow h k1,cnow h k2,cnow h k3⟩
   refine zEA (fun w'=>w'.cell? ⟨b1,o1+i*2,none⟩=some (.bool nf)∧w'.cell? ⟨b1,o1+i*2+1,none⟩=some (.slice adf xf.length qf)∧w'.cell? ⟨b2,o2+i*2,none⟩=some (.bool ng)∧w'.cell? ⟨b2,o2+i*2+1,none⟩=some (.slice adg xg.length qg)) 9 (by kernel_rfl) ?_;obtain ⟨D1,hD⟩:∃D1,wr.drew=D1:=⟨_,rfl⟩
   have GB:Hid (Below wr.heap.size wr D1):=by unfold Hid;rw [←hD];exact (Below.refl _ _).drew
   rw [hD];clear hD;refine zBA (i:=0) (oi:=⟨some 18,.move (.tmp 0),22, "law.go:95",#[],none⟩) (v:=(.slice (some ⟨b1,o1,none⟩) n ca)) rfl (by kernel_rfl) (fun _ _ _ h=>h) (Or.inl ⟨by rfl,?_⟩) (KB.out _ GB.out) ?_
   ·intro w hSw;(try dsimp only at hSw);go_simp
   simp only [Act.put,sIb,sC0,sC1];refine zBA (i:=1) (oi:=⟨some 19,.move (.tmp 5),3, "law.go:95",#[],none⟩) (v:=(.int .i64 (i:Int))) rfl (by kernel_rfl) (fun _ _ _ h=>h) (Or.inl ⟨by rfl,?_⟩) (KB.out _ GB.out) ?_
   ·intro w hSw;(try dsimp only at hSw);go_simp
   simp only [Act.put,sIb,sC0,sC1];refine zBA (i:=2) (oi:=⟨some 20,.indexAddr 22 (.tmp 18) (.tmp 19),0, "law.go:95",#[⟨0,.data⟩,⟨1,.data⟩],none⟩) (v:=(.pointer (some ⟨b1,o1+i*2,none⟩))) rfl (by kernel_rfl) (fun _ _ _ h=>h) (Or.inl ⟨by rfl,?_⟩) (KB.out _ GB.out) ?_
   ·intro w hSw;(try dsimp only at hSw);go_simp
   simp only [Act.put,sIb,sC0,sC1];refine zBA (i:=3) (oi:=⟨some 21,.load 47 (.tmp 20),47, "law.go:95",#[⟨2,.data⟩],none⟩) (v:=(.agg #[.bool nf,.slice adf xf.length qf])) rfl (by kernel_rfl) (fun _ _ _ h=>h) (Or.inl ⟨by rfl,?_⟩) (KB.out _ GB.out) ?_
   ·intro w hSw;(try dsimp only at hSw);go_simp
   simp only [Act.put,sIb,sC0,sC1];refine zBA (i:=4) (oi:=⟨some 22,.move (.tmp 1),22, "law.go:95",#[],none⟩) (v:=(.slice (some ⟨b2,o2,none⟩) n cb)) rfl (by kernel_rfl) (fun _ _ _ h=>h) (Or.inl ⟨by rfl,?_⟩) (KB.out _ GB.out) ?_
   ·intro w hSw;(try dsimp only at hSw);go_simp
   simp only [Act.put,sIb,sC0,sC1];refine zBA (i:=5) (oi:=⟨some 23,.move (.tmp 5),3, "law.go:95",#[],none⟩) (v:=(.int .i64 (i:Int))) rfl (by kernel_rfl) (fun _ _ _ h=>h) (Or.inl ⟨by rfl,?_⟩) (KB.out _ GB.out) ?_
   ·intro w hSw;(try dsimp only at hSw);go_simp
   simp only [Act.put,sIb,sC0,sC1];refine zBA (i:=6) (oi:=⟨some 24,.indexAddr 22 (.tmp 22) (.tmp 23),0, "law.go:95",#[⟨4,.data⟩,⟨5,.data⟩],none⟩) (v:=(.pointer (some ⟨b2,o2+i*2,none⟩))) rfl (by kernel_rfl) (fun _ _ _ h=>h) (Or.inl ⟨by rfl,?_⟩) (KB.out _ GB.out) ?_
   ·intro w hSw;(try dsimp only at hSw);go_simp
   simp only [Act.put,sIb,sC0,sC1];refine zBA (i:=7) (oi:=⟨some 25,.load 47 (.tmp 24),47, "law.go:95",#[⟨6,.data⟩],none⟩) (v:=(.agg #[.bool ng,.slice adg xg.length qg])) rfl (by kernel_rfl) (fun _ _ _ h=>h) (Or.inl ⟨by rfl,?_⟩) (KB.out _ GB.out) ?_
   ·intro w hSw;(try dsimp only at hSw);go_simp
   simp only [Act.put,sIb,sC0,sC1];refine zAA (i:=8) (o:=⟨some 26,.call { callee:=.value (.func 55),args:=#[.tmp 21,.tmp 25],argTypes:=#[47,47] },4, "law.go:95",#[⟨3,.data⟩,⟨7,.data⟩],none⟩) (by kernel_rfl) rfl (fun K hK=>?_);go_simp;go_at_call 55;refine (HS.out _ GB.out).mono ?_;rintro e w2 ⟨rfl,b⟩;have lz2:=(show Below _ _ _ from b).size;replace GB:=hid (below_step GB.out b);have G1:=hid (below_step G.out GB.out);clear b;refine hK.out _ _ (fun _=>KB.out _ GB.out) ?_;clear hK;refine zAA (i:=9) (o:=⟨some 6,.assign (.tmp 26),4, "law.go:95",#[⟨8,.data⟩,⟨8,.chain⟩,⟨0,.phase⟩,⟨1,.phase⟩,⟨2,.phase⟩,⟨3,.phase⟩,⟨4,.phase⟩,⟨5,.phase⟩,⟨6,.phase⟩,⟨7,.phase⟩,⟨8,.phase⟩],none⟩) (by kernel_rfl) rfl (fun K hK=>?_);go_simp;refine hK.out _ _ (fun h=>absurd h (by decide)) ?_;clear hK
   try simp only [Act.put]
   refine zDA (by kernel_rfl) ?_ _;have HN1:Hid (zUJ w n (n-(i+1)) (.int .i64 ((i+1:Nat):Int)) w2):=⟨i+1,rfl,by omega,rfl,G1.out⟩
   have HMM:Hid (n-(i+1)<gk):=by unfold Hid;rw [HG.out];omega
   clear HS G HG G1 GB KB;go_wp2_with fail;go_roundg (n-(i+1))
   case rel=>exact HN1.out
   case measure=>exact HMM.out
  ·have hlt':¬(i:Int)<(n:Int):=by omega
   clear HG;go_wp2;go_ret;exact ⟨rfl,G.out⟩
theorem zNA {w:World} {va vb:Value} {r c k l:Nat} {zs ys:List Int} (ha:Mc w va r c zs k) (hb:Mc w vb r c ys l) (he:zs=ys) :
  Calls Tryz.prog 11 #[va,vb] w fun e w'=>e=.returned (.bool true)∧Below w.heap.size w w':=by
 subst he;obtain ⟨ata,pa,rfl,pa1,pa2,-,-,-⟩:=ha;obtain ⟨atb,pb,rfl,pb1,pb2,-,-,-⟩:=hb;obtain ⟨W0,hW⟩:∃W0,(w.alloc (matO r c ata)).alloc (matO r c atb)=W0:=⟨_,rfl⟩
 obtain ⟨b0,sz0⟩:=zXA w (matO r c ata) (matO r c atb);rw [hW] at b0;have qa:Cel W0 w.heap.size 24 (matc r c ata):=by
  rw [←hW];exact (Cel.new w 24 (matc r c ata)).step ((Below.refl _ _).alloc (Nat.le_refl _) _)
 have qb:Cel W0 (w.heap.size+1) 24 (matc r c atb):=by
  rw [←hW];have:=Cel.new (w.alloc (matO r c ata)) 24 (matc r c atb)
  simpa using this
 have HS:=hid (zXC (pa1.now b0) (pa2.now b0) (pb1.now b0) (pb2.now b0));obtain ⟨aa,ca,rfl,-,-,-,-⟩:=pa1.form;obtain ⟨ab,cb,rfl,-,-,-,-⟩:=pb1.form;have x2:=qa.at (i:=2) rfl;have y2:=qb.at (i:=2) rfl;rw [←hW] at x2 y2;have QA:=hid qa;have QB:=hid qb;have q0:((r:Int) == (r:Int))=true:=by simp
 have q1:((c:Int) == (c:Int))=true:=by simp
 have G0:=hid b0;have EW:=hid hW;clear b0 sz0 hW qa qb pa1 pa2 pb1 pb2;go_enter Tryz.func11,Tryz.ntmps11;go_wp2_with fail;rw [EW.out];refine HS.out.mono ?_;rintro e w1 ⟨rfl,b⟩;have x0:=(QA.out.step b).at (i:=0) rfl;have x1:=(QA.out.step b).at (i:=1) rfl;have y0:=(QB.out.step b).at (i:=0) rfl;have y1:=(QB.out.step b).at (i:=1) rfl;have G1:=hid (below_step G0.out b);clear b HS x2 y2 EW QA QB;go_wp2;go_ret;exact ⟨rfl,G1.out⟩
theorem zRD {w:World} {r c:Int} {a:Option Addr} {l cap:Nat} (hl:l≤1048576):Calls Tryz.prog 6 #[.agg #[.int .i64 r,.int .i64 c,.slice a l cap]] w (zJD w r c l):=by
 have b0:=(alo1 w (.cells #[.int .i64 r,.int .i64 c,.slice a l cap] 24)).1;have P1:=Cel.new w 24 [.int .i64 r,.int .i64 c,.slice a l cap];have x0:=P1.at (i:=0) rfl;have x1:=P1.at (i:=1) rfl;have x2:=P1.at (i:=2) rfl;have G0:=hid b0;clear b0 P1
 by_cases h1:0≤r
 case neg =>
  have FIN:Hid (zJD w r c l (.returned (.bool false)) (w.alloc (.cells #[.int .i64 r,.int .i64 c,.slice a l cap] 24))):=⟨false,rfl,⟨(fun e=>by cases e),(fun e=>by unfold Snd at e;omega)⟩,G0.out⟩
  go_enter Tryz.func6,Tryz.ntmps6;go_wp2;go_ret;exact FIN.out
 by_cases h2:r≤64
 case neg =>
  have FIN:Hid (zJD w r c l (.returned (.bool false)) (w.alloc (.cells #[.int .i64 r,.int .i64 c,.slice a l cap] 24))):=⟨false,rfl,⟨(fun e=>by cases e),(fun e=>by unfold Snd at e;omega)⟩,G0.out⟩
  go_enter Tryz.func6,Tryz.ntmps6;go_wp2;go_ret;exact FIN.out
 by_cases h3:0≤c
 case neg =>
  have FIN:Hid (zJD w r c l (.returned (.bool false)) (w.alloc (.cells #[.int .i64 r,.int .i64 c,.slice a l cap] 24))):=⟨false,rfl,⟨(fun e=>by cases e),(fun e=>by unfold Snd at e;omega)⟩,G0.out⟩
  go_enter Tryz.func6,Tryz.ntmps6;go_wp2;go_ret;exact FIN.out
 by_cases h4:c≤64
 case neg =>
  have FIN:Hid (zJD w r c l (.returned (.bool false)) (w.alloc (.cells #[.int .i64 r,.int .i64 c,.slice a l cap] 24))):=⟨false,rfl,⟨(fun e=>by cases e),(fun e=>by unfold Snd at e;omega)⟩,G0.out⟩
  go_enter Tryz.func6,Tryz.ntmps6;go_wp2;go_ret;exact FIN.out
 have hm:0≤r*c∧r*c≤64*64:=⟨Int.mul_nonneg h1 h3,Int.mul_le_mul h2 h4 h3 (by omega)⟩
 have hw:IntKind.i64.wrap (r*c)=r*c:=by rw [zTA] <;> omega
 obtain ⟨q,hq⟩:∃q,r*c=q:=⟨_,rfl⟩
 have HQ:=hid hq;replace hw:IntKind.i64.wrap (r*c)=q:=hw.trans hq;have hw2:=hw;rw [IntKind.wrap_i64] at hw2;rw [hq] at hm
 by_cases h5:(l:Int)=q
 case neg =>
  have h6:((l:Int) == q)=false:=by simpa using h5
  have FIN:Hid (zJD w r c l (.returned (.bool false)) (w.alloc (.cells #[.int .i64 r,.int .i64 c,.slice a l cap] 24))):=⟨false,rfl,⟨(fun e=>by cases e),(fun e=>by unfold Snd at e;rw [HQ.out] at e;exact absurd e.2.2.2.2 h5)⟩,G0.out⟩
  clear hq;go_enter Tryz.func6,Tryz.ntmps6;go_wp2;go_ret;exact FIN.out
 case pos =>
  have h6:((l:Int) == q)=true:=by simpa using h5
  have FIN:Hid (zJD w r c l (.returned (.bool true)) (w.alloc (.cells #[.int .i64 r,.int .i64 c,.slice a l cap] 24))):=⟨true,rfl,⟨fun _=>⟨h1,h2,h3,h4,h5.trans HQ.out.symm⟩,fun _=>rfl⟩,G0.out⟩
  clear hq;go_enter Tryz.func6,Tryz.ntmps6;go_wp2;go_ret;exact FIN.out
def ArZ (wx:World) (g:Nat) (zs:List Int) (k:Nat):Prop:=∃ps,Arr wx g ps∧Zms wx ps zs k
theorem zwF (w:World) (k:Nat):Zm 0 w (.agg #[.bool false,.slice none 0 0]) 0 k:=⟨false,[],none,0,rfl,Mine.nil _ _,⟨WF.nil,rfl⟩,fun _=>rfl,by simp [iv,val],Nat.zero_le _⟩
theorem ArZ.start {w:World} {g n:Nat} (h:Arr w g (List.replicate n zGB)) (k:Nat):ArZ w g (List.replicate n 0) k:=by
 refine ⟨_,h,by simp,fun j p z hp hz=>?_⟩;rw [List.eq_of_mem_replicate (List.mem_of_getElem? hp),List.eq_of_mem_replicate (List.mem_of_getElem? hz)];exact zwF w k
theorem ArZ.step {w w':World} {g:Nat} {zs:List Int} {k:Nat} (h:ArZ w g zs k) (hb:Below w.heap.size w w'):ArZ w' g zs k:=by
 obtain ⟨ps,h1,h2⟩:=h;exact ⟨ps,h1.step hb,h2.now hb⟩
theorem ArZ.ty12 {w:World} {g t:Nat} {zs:List Int} {k:Nat} (h:ArZ w g zs k) (x y:Value):Ty 47 w ((w.setCell ⟨g,t*2,none⟩ x).setCell ⟨g,t*2+1,none⟩ y):=by
 obtain ⟨ps,h1,h2⟩:=h;exact h1.ty12 x y
theorem ArZ.put {w:World} {g t:Nat} {zs:List Int} {k:Nat} {x y:Value} {z:Int} (h:ArZ w g zs k) (ht:t<zs.length) (hz:Zm 0 w (.agg #[x,y]) z k):ArZ ((w.setCell ⟨g,t*2,none⟩ x).setCell ⟨g,t*2+1,none⟩ y) g (zs.set t z) k:=by
 have hty:=h.ty12 (t:=t) x y;obtain ⟨ps,h1,h2⟩:=h;refine ⟨ps.set t (x,y),h1.put (by rw [h2.1];exact ht) hz.zi.isI,by simp [h2.1],fun j p q hp hq=>?_⟩
 by_cases e:j=t
 ·subst e
  rw [List.getElem?_set_self (by rw [h2.1];exact ht),Option.some.injEq] at hp;rw [List.getElem?_set_self ht,Option.some.injEq] at hq;subst hp;subst hq;exact hz.ty hty (by decide)
 ·rw [List.getElem?_set_ne (by omega)] at hp hq
  exact (h2.2 j p q hp hq).ty hty (by decide)
theorem ArZ.cells {w:World} {g j:Nat} {zs:List Int} {k:Nat} (h:ArZ w g zs k) (hj:j<zs.length):∃m a l c,w.cell? ⟨g,j*2,none⟩=some (.bool m)∧w.cell? ⟨g,j*2+1,none⟩=some (.slice a l c)∧w.frozen? ⟨g,j*2,none⟩=false∧w.frozen? ⟨g,j*2+1,none⟩=false∧Zm 0 w (.agg #[.bool m,.slice a l c]) (zs.getD j 0) k:=by
 obtain ⟨ps,h1,h2⟩:=h;have hl:=h2.1;have hp:ps[j]?=some (ps[j]'(by omega)):=List.getElem?_eq_getElem (by omega);have hq:zs[j]?=some (zs[j]):=List.getElem?_eq_getElem hj;obtain ⟨m,a,l,c,e⟩:=h1.2 _ (List.getElem_mem (l:=ps) (n:=j) (by omega));have q:=h1.at hp;have z:=h2.2 j _ _ hp hq;rw [e] at q z;have:zs.getD j 0=zs[j]:=by simp [hj]
 rw [this];exact ⟨m,a,l,c,q.1,q.2,h1.1.fz _,h1.1.fz _,z⟩
theorem ArZ.done {w:World} {g:Nat} {zs:List Int} {k:Nat} (h:ArZ w g zs k) (hn:zs.length≤1048576):∃ps,PrsT w (.slice (some ⟨g,0,none⟩) zs.length zs.length) ps∧Zms w ps zs k:=by
 obtain ⟨ps,h1,h2⟩:=h;refine ⟨ps,?_,h2⟩;rw [←h2.1];exact h1.prsT (by rw [h2.1];exact hn)
def MB1 (w wx:World) (bm:Nat) (A0 M0:List Value):Prop:=Cel wx w.heap.size 24 A0∧Cel wx (w.heap.size+1) 24 [.int .i64 0,.int .i64 0,.slice none 0 0]∧Cel wx bm 24 M0∧Below w.heap.size w wx

end Go.Proofs.YtjjpodnjljfheaaGreat
namespace Go.Proofs.YtjjpodnjljfheaaGreat
def mix (ys xs:List Int) (i:Nat):List Int:=(List.range xs.length).map fun j=>if j<i then ys.getD j 0 else xs.getD j 0
theorem znD {ys xs:List Int} (i:Nat):(mix ys xs i).length=xs.length:=by simp [mix]
theorem mix_zero (ys xs:List Int):mix ys xs 0=xs:=List.ext_getElem (znD 0) fun j h1 h2=>by simp [mix,h2]
theorem mix_all {ys xs:List Int} (h:ys.length=xs.length):mix ys xs xs.length=ys:=List.ext_getElem (by rw [znD,h]) fun j h1 h2=>by
 rw [znD] at h1;simp [mix,h1,h2]
theorem mix_set {ys xs:List Int} (h:ys.length=xs.length) {i:Nat} (hi:i<xs.length):(mix ys xs i).set i (ys[i]'(by omega))=mix ys xs (i+1):=by
 refine List.ext_getElem (by simp [znD]) fun j h1 h2=>?_
 have hj:j<xs.length:=by simpa [znD] using h1
 rw [List.getElem_set]
 by_cases e:i=j
 ·subst e
  rw [if_pos rfl];simp [mix,show i<ys.length by omega]
 ·rw [if_neg e]
  by_cases q:j<i
  ·simp [mix,q,show j<i+1 by omega]
  ·simp [mix,q,show ¬j<i+1 by omega]
open Go.RowKit
theorem mix_step12 {zs:List Int} {N i:Nat} (h:zs.length=N) (hi:i<N):(mix zs (List.replicate N 0) i).set i (zs.getD i 0)=mix zs (List.replicate N 0) (i+1):=by
 have h0:i<zs.length:=by omega
 have:=mix_set (ys:=zs) (xs:=List.replicate N 0) (by simp [h]) (i:=i) (by simpa using hi);rw [←this]
 congr 1
 rw [List.getD_eq_getElem?_getD,List.getElem?_eq_getElem h0]
 rfl
theorem mix_end12 {zs:List Int} {N:Nat} (h:zs.length=N):mix zs (List.replicate N 0) N=zs:=by
 have:=mix_all (ys:=zs) (xs:=List.replicate N 0) (by simp [h]);rw [List.length_replicate] at this;exact this
theorem zcE {w:World} {n:Nat} (h:n≤64):Calls Tryz.prog 56 #[.int .i64 (n:Int)] w fun e w'=>e=.returned (.bool false)∧w'=w:=by
 have g1:¬(n:Int)<0:=by omega
 have g2:¬(64:Int)<(n:Int):=by omega
 go_enter Tryz.func56,Tryz.ntmps56;go_wp2;go_ret;exact ⟨rfl,rfl⟩
def MBK (w wx:World) (bm:Nat) (M0:List Value):Prop:=Cel wx w.heap.size 24 [.int .i64 0,.int .i64 0,.slice none 0 0]∧Cel wx bm 24 M0∧Below w.heap.size w wx
theorem MBK.step {w x y:World} {bm:Nat} {M0:List Value} (h:MBK w x bm M0) (hb:Below x.heap.size x y):MBK w y bm M0:=⟨h.1.step hb,h.2.1.step hb,below_step h.2.2 hb⟩
theorem MBK.ty {w x y:World} {bm:Nat} {M0:List Value} (h:MBK w x bm M0) (ht:Ty 47 x y) (hb:Below w.heap.size w y):MBK w y bm M0:=⟨h.1.ty12 ht (by decide),h.2.1.ty12 ht (by decide),hb⟩
def MkH (w:World) (bm g N:Nat) (zs:List Int) (k:Nat) (M0:List Value) (gk:Nat) (s:Value) (wx:World):Prop :=
 ∃i:Nat,s=.int .i64 (i:Int)∧i≤N∧gk=N-i∧ArZ wx g (mix zs (List.replicate N 0) i) k∧MBK w wx bm M0
theorem rmake12 {w:World} {v:Value} {pv:List (Value×Value)} {r c ka:Nat} {zs:List Int} (hv:Prs 0 w v pv) (hvz:Zis w pv zs ka) (hvl:zs.length=r*c) (hr:r≤64) (hc:c≤64) (hk:ka≤1099511627776) :
  Calls Tryz.prog 32 #[.int .i64 (r:Int),.int .i64 (c:Int),v] w (zyA w r c zs ka):=by
 have hrc:r*c≤64*64:=Nat.mul_le_mul hr hc;obtain ⟨N,hN⟩:∃N,r*c=N:=⟨_,rfl⟩
 have HBL:Hid (∀w',Calls Tryz.prog 29 #[.int .i64 (r:Int),.int .i64 (c:Int)] w' (zvF w' r c N)):=fun w'=>zcF hr hc hN
 have HNN:=hid hN;have hm0:=zJB (i:=r) (c:=c) hr hc;rw [hN] at hrc hvl hm0;have hm2:=hm0;rw [IntKind.wrap_i64] at hm2;have HVV:Hid (∀wx,Below w.heap.size w wx→∀t,t<N→∃b off cap n a l c,v=.slice (some ⟨b,off,none⟩) N cap∧wx.cell? ⟨b,off+t*2,none⟩=some (.bool n)∧wx.cell? ⟨b,off+t*2+1,none⟩=some (.slice a l c)∧Zi wx (.agg #[.bool n,.slice a l c]) (zs.getD t 0) ka):=fun wx h t ht=>by
  have:=(hv.now h).isI12 (hvz.now h) (t:=t) (by rw [hvl];exact ht);rw [hvl] at this;exact this
 obtain ⟨av,cv,rfl,-,-,-,-⟩:=hv.form;have hvp:pv.length=N:=by rw [hvz.1,hvl]
 rw [hvp] at HVV ⊢;obtain ⟨W0,hW⟩:∃W0,w.alloc mbox=W0:=⟨_,rfl⟩
 obtain ⟨b0,sz0⟩:=alo1 w mbox;rw [hW] at b0 sz0;have PR:=hid (zZB hW);have G0:=hid b0;have SZ:=hid sz0;have HK:=hid hk;have EW:=hid hW;have MIX:Hid (∀i,i<N→(mix zs (List.replicate N 0) i).set i (zs.getD i 0)=mix zs (List.replicate N 0) (i+1)):=fun i hi=>mix_step12 hvl hi
 have MIXL:Hid (∀i,(mix zs (List.replicate N 0) i).length=N):=fun i=>by rw [znD];simp
 have MIXA:Hid (mix zs (List.replicate N 0) N=zs):=mix_end12 hvl;have HVL:=hid hvl;clear hv hvz hvl hvp b0 sz0 hW hk hN;have q0:((N:Int) != (N:Int))=false:=by simp
 go_enter Tryz.func32,Tryz.ntmps32;go_wp2_with fail;rw [EW.out];refine (zcE hr).mono ?_;rintro e w3 ⟨rfl,rfl⟩;go_wp2_with fail;refine (zcE hc).mono ?_;rintro e w4 ⟨rfl,rfl⟩;go_wp2_with fail;refine (HBL.out _).mono ?_;rintro e w2 ⟨g,rfl,hge,harr,b2⟩;clear q0 HBL hm0 hm2 EW;obtain ⟨V1,hV⟩:∃V1,w2.alloc (matO r c (.slice (some ⟨g,0,none⟩) N N))=V1:=⟨_,rfl⟩
 obtain ⟨b3,sz3⟩:=alo1 w2 (matO r c (.slice (some ⟨g,0,none⟩) N N));rw [hV] at b3 sz3;have PM:Hid (Cel V1 w2.heap.size 24 (matc r c (.slice (some ⟨g,0,none⟩) N N))):=by unfold Hid;rw [←hV];exact Cel.new w2 _ _
 have HGW:Hid (w.heap.size<g):=by unfold Hid;have h1:=SZ.out;omega
 have H0:Hid (MkH w w2.heap.size g N zs ka (matc r c (.slice (some ⟨g,0,none⟩) N N)) N (.int .i64 0) V1) :=
  ⟨0,rfl,Nat.zero_le _,by omega,by rw [mix_zero];exact (ArZ.start harr ka).step b3,(PR.out.step b2).step b3,PM.out,below_step (below_step G0.out b2) b3⟩
 have EV:=hid hV;clear PR G0 harr b2 b3 sz3 PM hV hge SZ;go_wp2_with fail;rw [EV.out];clear EV;obtain ⟨bm,hbm⟩:∃bm,w2.heap.size=bm:=⟨_,rfl⟩
 rw [hbm] at H0 ⊢;clear hbm
 go_loopg [9] N (fun gk s9 wx=>MkH w bm g N zs ka (matc r c (.slice (some ⟨g,0,none⟩) N N)) gk s9 wx)
 case atStart=>exact H0.out
 case round =>
  clear H0;obtain ⟨i,rfl,hin,hg,hfil,hmb⟩:=hrel;have FI:=hid hfil;have MBx:=hid hmb;have HG:=hid hg;clear hfil hmb hg
  by_cases hlt:i<N
  ·have hlt':(i:Int)<(N:Int):=by omega
   have hw:=zbA (i:=i) (by omega);have HMM:Hid (N-(i+1)<gk):=by unfold Hid;rw [HG.out];omega
   obtain ⟨b1,o1,c1,n1,a1,l1,d1,e7,u0,u1,z1⟩:=HVV.out wr MBx.out.2.2 i hlt;simp only [Value.slice.injEq] at e7;obtain ⟨rfl,-,rfl⟩:=e7;have HS:Hid (∀w',Below wr.heap.size wr w'→Calls Tryz.prog 59 #[.agg #[.bool n1,.slice a1 l1 d1]] w' (zmA w' (zs.getD i 0) ka)):=fun w' h=>zGH (z1.now h) HK.out
   have TP:=hid (MIX.out i hlt);have TL:=hid (MIXL.out i);have m2:=MBx.out.2.1.at (i:=2) rfl;clear z1 HG;go_wp2_with fail;have KB:Hid (∀w',Below wr.heap.size wr w'→w'.cell? ⟨bm,2,none⟩=some (.slice (some ⟨g,0,none⟩) N N)∧w'.cell? ⟨b1,o1+i*2,none⟩=some (.bool n1)∧w'.cell? ⟨b1,o1+i*2+1,none⟩=some (.slice a1 l1 d1)):=fun w' h=>⟨cnow h m2,cnow h u0,cnow h u1⟩
   refine zEA (fun w'=>w'.cell? ⟨bm,2,none⟩=some (.slice (some ⟨g,0,none⟩) N N)∧w'.cell? ⟨b1,o1+i*2,none⟩=some (.bool n1)∧w'.cell? ⟨b1,o1+i*2+1,none⟩=some (.slice a1 l1 d1)) 9 (by kernel_rfl) ?_;obtain ⟨D1,hD⟩:∃D1,wr.drew=D1:=⟨_,rfl⟩
   have GB:Hid (Below wr.heap.size wr D1):=by unfold Hid;rw [←hD];exact (Below.refl _ _).drew
   rw [hD];clear hD;have GBs:=GB;refine zHA [(0,(.pointer (some ⟨bm,2,none⟩))),(1,(.slice (some ⟨g,0,none⟩) N N)),(2,(.int .i64 (i:Int))),(3,(.slice (some ⟨b1,o1,none⟩) N cv)),(4,(.int .i64 (i:Int))),(5,(.pointer (some ⟨b1,o1+i*2,none⟩))),(6,(.agg #[.bool n1,.slice a1 l1 d1]))] 7 ?_ (KB.out _ GB.out) ?_
   ·simp only [zUA,gA9,g09,g19,Act.put,sI9,s09,s19]
    (repeat' (first | exact trivial | refine And.intro (Or.inl ⟨by rfl,?_⟩) ?_)) <;> (intro w hSw;(try dsimp only at hSw);go_simp)
   simp only [actV,gA9,g09,g19,Act.put,sI9,s09,s19];refine zAA (i:=7) (o:=⟨some 40,.call { callee:=.value (.func 59),args:=#[.tmp 39],argTypes:=#[47] },47, "ref.go:37",#[⟨6,.data⟩],none⟩) (by kernel_rfl) rfl (fun K hK=>?_);go_simp;go_at_call 59;refine (HS.out _ GB.out).mono ?_;rintro e w2 ⟨rr,rfl,m1,b⟩;have lz2:=(show Below _ _ _ from b).size;replace GB:=hid (below_step GB.out b);have FI1:=hid (FI.out.step (below_step (w0:=wr) GBs.out b));have MB2:=hid (MBx.out.step (below_step (w0:=wr) GBs.out b));have M1:=hid (m1.mono (Nat.zero_le _));obtain ⟨nr,xr,ar,cr,rfl⟩:=m1.parts;clear m1;clear b;refine hK.out _ _ (fun _=>KB.out _ GB.out) ?_;clear hK;refine zHA [(8,(.pointer (some ⟨g,i*2,none⟩)))] 1 ?_ (KB.out _ GB.out) ?_
   ·simp only [zUA,gA9,g09,g19,Act.put,sI9,s09,s19]
    (repeat' (first | exact trivial | refine And.intro (Or.inl ⟨by rfl,?_⟩) ?_)) <;> (intro w hSw;(try dsimp only at hSw);go_simp)
   simp only [actV,gA9,g09,g19,Act.put,sI9,s09,s19];refine zAA (i:=9) (o:=⟨none,.store 47 (.tmp 41) (.tmp 40),0, "ref.go:37",#[⟨8,.data⟩,⟨7,.data⟩,⟨7,.chain⟩,⟨0,.phase⟩,⟨1,.phase⟩,⟨2,.phase⟩,⟨3,.phase⟩,⟨4,.phase⟩,⟨5,.phase⟩,⟨6,.phase⟩,⟨7,.phase⟩],none⟩) (by kernel_rfl) rfl (fun K hK=>?_);obtain ⟨m0,am,lm,cm,e0,e1,e2,e3,-⟩:=FI1.out.cells (j:=i) (by rw [TL.out];exact hlt);go_simp;clear e0 e1 e2 e3;obtain ⟨V3,hW⟩:∃V3,((w2.setCell ⟨g,i*2,none⟩ (.bool nr)).setCell ⟨g,i*2+1,none⟩ (.slice ar xr.length cr))=V3:=⟨_,rfl⟩
   have HN1:Hid (MkH w bm g N zs ka (matc r c (.slice (some ⟨g,0,none⟩) N N)) (N-(i+1)) (.int .i64 ((i+1:Nat):Int)) V3):=by
    unfold Hid;rw [←hW];refine ⟨i+1,rfl,by omega,rfl,?_,MB2.out.ty (FI1.out.ty12 _ _) (bset (bset MB2.out.2.2 (by have:=HGW.out;omega)) (by have:=HGW.out;omega))⟩;have:=FI1.out.put (t:=i) (by rw [TL.out];exact hlt) M1.out;rw [TP.out] at this;exact this
   rw [hW];clear hW;refine hK.out _ _ (fun h=>absurd h (by decide)) ?_;clear hK
   try simp only [Act.put]
   refine zDA (by kernel_rfl) ?_ _;clear HS FI MBx FI1 MB2 M1 GBs GB KB;go_wp2_with fail;go_roundg (N-(i+1))
   case rel=>exact HN1.out
   case measure=>exact HMM.out
  ·have hlt':¬(i:Int)<(N:Int):=by omega
   obtain rfl:i=N:=by omega
   have m0:=MBx.out.2.1.at (i:=0) rfl;have m1:=MBx.out.2.1.at (i:=1) rfl;have m2:=MBx.out.2.1.at (i:=2) rfl;have r0:=MBx.out.1.at (i:=0) rfl;have r1:=MBx.out.1.at (i:=1) rfl;have r2:=MBx.out.1.at (i:=2) rfl;have f0:=MBx.out.1.fz 0;have f1:=MBx.out.1.fz 1;have f2:=MBx.out.1.fz 2;have h1:=FI.out;rw [MIXA.out] at h1;obtain ⟨ps,p1,p2⟩:=h1.done (by rw [HVL.out];omega);rw [HVL.out] at p1;have FIN:Hid (zyA w r c zs ka (.returned (.tuple #[.agg #[.int .i64 (r:Int),.int .i64 (c:Int),.slice (some ⟨g,0,none⟩) i i],.int .i64 0])) (put3 wr w.heap.size (.int .i64 (r:Int)) (.int .i64 (c:Int)) (.slice (some ⟨g,0,none⟩) i i))):=by
    have t1:Ty 24 wr (put3 wr w.heap.size (.int .i64 (r:Int)) (.int .i64 (c:Int)) (.slice (some ⟨g,0,none⟩) i i)):=((Ty.set MBx.out.1).trans (Ty.set (MBx.out.1.set 0 _))).trans (Ty.set ((MBx.out.1.set 0 _).set 1 _));exact ⟨_,rfl,⟨_,ps,rfl,(p1.ty t1 (by decide)).1,(p2.ty t1 (by decide)).zcs,by rw [HVL.out,HNN.out],hr,hc⟩,zVA MBx.out.2.2 (by omega) _ _ _⟩
   have PG:=hid (MBx.out.1.put3 (.int .i64 (r:Int)) (.int .i64 (c:Int)) (.slice (some ⟨g,0,none⟩) i i));clear FI MBx HG p1 p2 h1;go_wp2;exact bodyPost_ret (zWC Tryz.results32 PG.out _ (by rfl) (by rfl)) rfl FIN.out
end Go.Proofs.YtjjpodnjljfheaaGreat
