/-
 QPc18ToFp21: Pc18, Px18, Ld18, Lq18, Fp18, Ai21, Trace9, TurnP9, Fp21, joined.
-/
import Derived.Test.YtjjpodnjljfheaaGreatQAz18ToLp18
import Derived.Test.YtjjpodnjljfheaaGreatQOf11ToTo18
import Derived.Test.YtjjpodnjljfheaaGreatQLi18ToFo18
import Derived.Test.YtjjpodnjljfheaaGreatQChkN9ToLn11
import Derived.Test.YtjjpodnjljfheaaGreatQLr21ToOr21
import Derived.Test.YtjjpodnjljfheaaGreatQUnit9ToDz12
import Derived.Test.YtjjpodnjljfheaaGreatQLm6ToWk9
import Derived.Test.YtjjpodnjljfheaaGreatQTurn9

set_option maxRecDepth 100000
set_option maxHeartbeats 6400000
set_option linter.unusedVariables false
set_option linter.unusedSimpArgs false
namespace Go.Proofs.YtjjpodnjljfheaaGreat
open Go.RowKit
theorem slice_end18 (w:World) (b off n c:Nat):(Instr.slice 22 (.slice (some ⟨b,off,none⟩) n c) (some (.int .i64 (c:Int))) (some (.int .i64 (c:Int))) none).run Tryz.prog w=.ok (.slice (some ⟨b,off,none⟩) 0 0) w:=by
 have i1:(0:Int)≤(c:Int):=by omega
 go_simp
theorem cut_any18 {B:Nat} {w:World} {a:Option Addr} {n cap x y:Nat} {ps:List (Value×Value)} (h:Prs B w (.slice a n cap) ps) (hxy:x≤y) (hy:y≤ps.length) :
  ∃a' cap',(∀wx,(Instr.slice 22 (.slice a n cap) (some (.int .i64 (x:Int))) (some (.int .i64 (y:Int))) none).run Tryz.prog wx=.ok (.slice a' (y-x) cap') wx)∧Prs B w (.slice a' (y-x) cap') ((ps.drop x).take (y-x)):=by
 have h0:=h;obtain ⟨a',c',h1,h2,h3,-,h4⟩:=h;simp only [Value.slice.injEq] at h1;obtain ⟨rfl,rfl,rfl⟩:=h1;rcases h4 with rfl | ⟨b,off,rfl,h5',h6,h7⟩
 ·obtain rfl:y=0:=by simpa using hy
  obtain rfl:x=0:=by omega
  refine ⟨a,cap,fun wx=>?_,?_⟩
  ·simpa using zGF wx a cap
  ·simpa using h0
 ·by_cases q:x<cap
  ·refine ⟨some ⟨b,off+x*2,none⟩,cap-x,fun wx=>?_,h0.piece (by omega)⟩
   have:=zBG wx b off ps.length cap x y hxy (by omega) q;rw [Nat.mul_comm 2] at this;exact this
  ·obtain rfl:x=cap:=by omega
   obtain rfl:y=x:=by omega
   refine ⟨some ⟨b,off,none⟩,0,fun wx=>?_,?_⟩
   ·rw [Nat.sub_self]
    exact slice_end18 wx b off ps.length y
   ·rw [Nat.sub_self,List.take_zero]
    exact ⟨_,0,rfl,Nat.le_refl _,Nat.zero_le _,(fun q=>by cases q),.inl rfl⟩
theorem Zcs.piece18 {w:World} {ps:List (Value×Value)} {zs:List Int} {k:Nat} (h:Zcs w ps zs k) (x c:Nat):Zcs w ((ps.drop x).take c) ((zs.drop x).take c) k:=by
 refine ⟨by simp [h.1],fun j p z hp hz=>?_⟩;rw [List.getElem?_take] at hp hz
 split at hp
 ·rename_i q
  rw [if_pos q] at hz;rw [List.getElem?_drop] at hp hz;exact h.2 _ p z hp hz
 ·cases hp
theorem Mc.cut18 {w:World} {m n k:Nat} {a:Option Addr} {l cap:Nat} {zs:List Int} (h:Mc w (.agg #[.int .i64 (m:Int),.int .i64 (n:Int),.slice a l cap]) m n zs k) {lo hi:Nat} (h1:lo≤hi) (h2:hi≤m) :
  ∃a' cap',(∀wx,(Instr.slice 22 (.slice a l cap) (some (.int .i64 ((lo*n:Nat):Int))) (some (.int .i64 ((hi*n:Nat):Int))) none).run Tryz.prog wx=.ok (.slice a' ((hi-lo)*n) cap') wx)∧Mc w (matv (hi-lo) n (.slice a' ((hi-lo)*n) cap')) (hi-lo) n ((zs.drop (lo*n)).take ((hi-lo)*n)) k:=by
 obtain ⟨at_,ps,e,hP,hZ,hL,hr,hc⟩:=h;simp only [Value.agg.injEq,Array.mk.injEq,List.cons.injEq,and_true,true_and] at e;subst e;have e1:lo*n≤hi*n:=Nat.mul_le_mul_right n h1;have e2:hi*n≤m*n:=Nat.mul_le_mul_right n h2;have hpl:ps.length=m*n:=by rw [hZ.1,hL]
 obtain ⟨a',cap',g1,g2⟩:=cut_any18 hP e1 (by rw [hpl];exact e2);rw [←Nat.sub_mul] at g1 g2;refine ⟨a',cap',g1,_,_,rfl,g2,hZ.piece18 _ _,?_,by omega,hc⟩;rw [List.length_take,List.length_drop,hL,←Nat.sub_mul];exact Nat.min_eq_left (Nat.mul_le_mul_right n (by omega))
theorem piece18 {w:World} {m n k:Nat} {aa:Option Addr} {la ca:Nat} {zs:List Int} (h:Mc w (.agg #[.int .i64 (m:Int),.int .i64 (n:Int),.slice aa la ca]) m n zs k) {lo hi:Nat} (h1:lo≤hi) (h2:hi≤m) :
  Calls Tryz.prog 13 #[.agg #[.int .i64 (m:Int),.int .i64 (n:Int),.slice aa la ca],.int .i64 (lo:Int),.int .i64 (hi:Int)] w (zxC w (hi-lo) n ((zs.drop (lo*n)).take ((hi-lo)*n)) k):=by
 have hmn:m≤64∧n≤64:=by obtain ⟨_,_,_,_,_,_,g1,g2⟩:=h;exact ⟨g1,g2⟩
 obtain ⟨a',cap',hs,hm⟩:=h.cut18 h1 h2;obtain ⟨d,hd⟩:∃d,hi-lo=d:=⟨_,rfl⟩
 obtain ⟨ys,hys⟩:∃ys,(zs.drop (lo*n)).take ((hi-lo)*n)=ys:=⟨_,rfl⟩
 rw [hys] at hm ⊢;rw [hd] at hm hs ⊢;obtain ⟨W0,hW⟩:∃W0,(w.alloc (.cells #[.int .i64 (m:Int),.int .i64 (n:Int),.slice aa la ca] 24)).alloc mbox=W0:=⟨_,rfl⟩
 obtain ⟨b0,sz0⟩:=zXA w (.cells #[.int .i64 (m:Int),.int .i64 (n:Int),.slice aa la ca] 24) mbox;rw [hW] at b0 sz0;have dA:Cel W0 w.heap.size 24 [.int .i64 (m:Int),.int .i64 (n:Int),.slice aa la ca]:=by rw [←hW];exact (Cel.new w _ _).step ((Below.refl _ _).alloc (Nat.le_refl _) _)
 have dR:Cel W0 (w.heap.size+1) 24 [.int .i64 0,.int .i64 0,.slice none 0 0]:=by
  rw [←hW];have:=Cel.new (w.alloc (.cells #[.int .i64 (m:Int),.int .i64 (n:Int),.slice aa la ca] 24)) 24 [.int .i64 0,.int .i64 0,.slice none 0 0]
  simpa using this
 have PR:=hid dR;have G:=hid b0;have MM:=hid hm;have EW:=hid hW;have k1:=dA.at (i:=1) rfl;have k2:=dA.at (i:=2) rfl;have hw:IntKind.i64.wrap ((hi:Int)-(lo:Int))=(d:Int):=by rw [zTA] <;> omega
 have hw':=hw;rw [IntKind.wrap_i64] at hw';have hm0:=zJB (i:=lo) (c:=n) (by omega) hmn.2;have hm1:=zJB (i:=hi) (c:=n) (by omega) hmn.2;clear h hm hd hys dA dR b0 sz0 hW;generalize lo*n=x at *;generalize hi*n=y at *;generalize d*n=z at *;have hm2:=hm0;have hm3:=hm1;rw [IntKind.wrap_i64] at hm2 hm3;go_enter Tryz.func13,Tryz.ntmps13;go_wp2_with fail;rw [EW.out];clear EW;have KB:Hid (∀w',Below W0.heap.size W0 w'→w'.cell? ⟨w.heap.size,1,none⟩=some (.int .i64 (n:Int))∧w'.cell? ⟨w.heap.size,2,none⟩=some (.slice aa la ca)):=fun w' h=>⟨cnow h k1,cnow h k2⟩
 refine zEA (fun w'=>w'.cell? ⟨w.heap.size,1,none⟩=some (.int .i64 (n:Int))∧w'.cell? ⟨w.heap.size,2,none⟩=some (.slice aa la ca)) 17 (by kernel_rfl) ?_;obtain ⟨D1,hD⟩:∃D1,W0.drew=D1:=⟨_,rfl⟩
 have GB:Hid (Below W0.heap.size W0 D1):=by unfold Hid;rw [←hD];exact (Below.refl _ _).drew
 rw [hD];clear hD;refine zHA [(0,(.int .i64 (hi:Int))),(1,(.int .i64 (lo:Int))),(2,(.int .i64 (d:Int))),(3,(.pointer (some ⟨w.heap.size,1,none⟩))),(4,(.int .i64 (n:Int))),(5,(.pointer (some ⟨w.heap.size,2,none⟩))),(6,(.slice aa la ca)),(7,(.int .i64 (lo:Int))),(8,(.pointer (some ⟨w.heap.size,1,none⟩))),(9,(.int .i64 (n:Int))),(10,(.int .i64 (x:Int))),(11,(.int .i64 (hi:Int))),(12,(.pointer (some ⟨w.heap.size,1,none⟩))),(13,(.int .i64 (n:Int))),(14,(.int .i64 (y:Int))),(15,(.slice a' z cap')),(16,(.agg #[(.int .i64 (d:Int)),(.int .i64 (n:Int)),(.slice a' z cap')]))] 17 ?_ (KB.out _ GB.out) ?_
 ·simp only [zUA,gA9,g09,g19,Act.put,sI9,s09,s19]
  (repeat' (first | exact trivial | refine And.intro (Or.inl ⟨by rfl,?_⟩) ?_)) <;> (intro w hSw;(try dsimp only at hSw);go_simp)
 simp only [actV,gA9,g09,g19,Act.put,sI9,s09,s19];refine zAA (i:=17) (o:=⟨none,.store 24 (.tmp 6) (.tmp 23),0, "plain.go:52",#[⟨16,.data⟩,⟨0,.phase⟩,⟨1,.phase⟩,⟨2,.phase⟩,⟨3,.phase⟩,⟨4,.phase⟩,⟨5,.phase⟩,⟨6,.phase⟩,⟨7,.phase⟩,⟨8,.phase⟩,⟨9,.phase⟩,⟨10,.phase⟩,⟨11,.phase⟩,⟨12,.phase⟩,⟨13,.phase⟩,⟨14,.phase⟩,⟨15,.phase⟩,⟨16,.phase⟩],none⟩) (by kernel_rfl) rfl (fun K hK=>?_);have r0:=(PR.out.step GB.out).at (i:=0) rfl;have r1:=(PR.out.step GB.out).at (i:=1) rfl;have r2:=(PR.out.step GB.out).at (i:=2) rfl;have f0:=(PR.out.step GB.out).fz 0;have f1:=(PR.out.step GB.out).fz 1;have f2:=(PR.out.step GB.out).fz 2;go_simp;clear r0 r1 r2 f0 f1 f2;obtain ⟨V2,hW⟩:∃V2,(((D1.setCell ⟨w.heap.size+1,0,none⟩ (.int .i64 (d:Int))).setCell ⟨w.heap.size+1,1,none⟩ (.int .i64 (n:Int))).setCell ⟨w.heap.size+1,2,none⟩ (.slice a' z cap'))=V2:=⟨_,rfl⟩
 have PF:Hid (Cel V2 (w.heap.size+1) 24 [(.int .i64 (d:Int)),(.int .i64 (n:Int)),(.slice a' z cap')]):=by unfold Hid;rw [←hW];exact (PR.out.step GB.out).put3 _ _ _
 have FIN:Hid (zxC w d n ys k (.returned (.agg #[(.int .i64 (d:Int)),(.int .i64 (n:Int)),(.slice a' z cap')])) V2):=by
  unfold Hid;rw [←hW];exact ⟨_,rfl,(MM.out.now (below_step G.out GB.out)).wk (PR.out.step GB.out) _ _ _,zVA (below_step G.out GB.out) (Nat.le_succ _) _ _ _⟩
 rw [hW];clear hW;refine hK.out _ _ (fun h=>absurd h (by decide)) ?_;clear hK
 try simp only [Act.put]
 refine zDA (by kernel_rfl) ?_ _;clear KB GB PR G MM;go_wp2;exact bodyPost_ret (zJG Tryz.results13 PF.out _ (by rfl)) rfl FIN.out
def zdJ (w:World) (r:Nat) (A0:List Value) (gk:Nat) (s:Value) (wx:World):Prop:=∃i:Nat,s=.int .i64 (i:Int)∧i≤r∧gk=r-i∧zbI w A0 wx
theorem lreducedP18 {w:World} {v lv:Value} {m n k r kw B gR oR cR:Nat} {γ:Nat→Nat} {zs:List Int} {F:Nat→Int} (h:Mx w v m n zs k) (hk:k≤1099511627776) (hkw:kw≤1099511627776) (hI:Ivs B w lv (zxB γ r)) (hrm:r≤m) (hγ:∀i,i<r→γ i<n)
  (hF:∀wx,Below w.heap.size w wx→∀j,j<n→∃n1 a l c,wx.cell? ⟨gR,oR+j*2,none⟩=some (.bool n1)∧wx.cell? ⟨gR,oR+j*2+1,none⟩=some (.slice a l c)∧Zi wx (.agg #[.bool n1,.slice a l c]) (F j) kw) (hred:∀i,i<r→0≤F (γ i)∧F (γ i)<en18 n zs i (γ i)) :
  Calls Tryz.prog 14 #[v,lv,.slice (some ⟨gR,oR,none⟩) n cR] w fun e w'=>e=.returned (.bool true)∧Below w.heap.size w w':=by
 obtain ⟨ata,pa,rfl,pa1,pa2,pa3,hm,hn⟩:=h;have hmn:m*n≤64*64:=Nat.mul_le_mul hm hn;have HAA:Hid (∀wx,Below w.heap.size w wx→∀i j,i<m→j<n→∃b off cap n1 a l c',ata=.slice (some ⟨b,off,none⟩) (m*n) cap∧wx.cell? ⟨b,off+(i*n+j)*2,none⟩=some (.bool n1)∧wx.cell? ⟨b,off+(i*n+j)*2+1,none⟩=some (.slice a l c')∧Zi wx (.agg #[.bool n1,.slice a l c']) (en18 n zs i j) k):=fun wx h i j hi hj=>by
  have:=(pa1.now h).isI12 (pa2.now h) (t:=i*n+j) (by rw [pa3];exact zJC hi hj);rw [pa3] at this;exact this
 obtain ⟨N,hN⟩:∃N,m*n=N:=⟨_,rfl⟩
 have HNN:=hid hN;obtain ⟨aa,ca,rfl,-,-,-,-⟩:=pa1.form;have hpl:pa.length=N:=by rw [pa2.1,pa3,hN]
 rw [hpl] at HAA ⊢;rw [hN] at HAA hmn;obtain ⟨W0,hW⟩:∃W0,w.alloc (matO m n (.slice aa N ca))=W0:=⟨_,rfl⟩
 obtain ⟨b0,sz0⟩:=alo1 w (matO m n (.slice aa N ca));rw [hW] at b0 sz0;have PA:Hid (Cel W0 w.heap.size 24 (matc m n (.slice aa N ca))):=by unfold Hid;rw [←hW];exact Cel.new w _ _
 have IV:=hid hI;have FR:=hid hF;have HK:=hid hk;have HKW:=hid hkw;have HG2:=hid hγ;have HRD:=hid hred;have EW:=hid hW;obtain ⟨al,cl,rfl,-,-⟩:=hI.form;rw [zYA] at IV ⊢;have H0:Hid (zdJ w r (matc m n (.slice aa N ca)) r (.int .i64 0) W0):=⟨0,rfl,Nat.zero_le _,rfl,PA.out,b0⟩
 clear pa1 pa2 pa3 hpl b0 sz0 hW hk hN PA hI hF hγ hred hkw;go_enter Tryz.func14,Tryz.ntmps14;go_wp2_with fail;rw [EW.out];clear EW
 go_loopg [7] r (fun gk s7 wx=>zdJ w r (matc m n (.slice aa N ca)) gk s7 wx)
 case atStart=>exact H0.out
 case round =>
  clear H0;obtain ⟨i,rfl,hir,hg,ho⟩:=hrel;have OB:=hid ho;have HG:=hid hg;clear ho hg
  by_cases hlt:i<r
  ·have hlt':(i:Int)<(r:Int):=by omega
   have hw:=zbA (i:=i) (by omega);have HMM:Hid (r-(i+1)<gk):=by unfold Hid;rw [HG.out];omega
   obtain ⟨gl,cpl,el,kl0⟩:=IV.out.at18 (t:=i) (by rw [zYA];exact hlt);rw [zYA] at el;simp only [Value.slice.injEq] at el;obtain ⟨rfl,-,rfl⟩:=el;obtain ⟨c,hc⟩:∃c,γ i=c:=⟨_,rfl⟩
   have e2:(zxB γ r).getD i 0=c:=by rw [←hc];simp [zxB,hlt]
   rw [e2] at kl0;have kl:=cnow OB.out.2 kl0;have hcn:c<n:=by rw [←hc];exact HG2.out i hlt
   have hcn':(c:Int)<(n:Int):=by omega
   have hrd:=HRD.out i hlt;rw [hc] at hrd;obtain ⟨nf,af,lf,qf,f0,f1,zf⟩:=FR.out wr OB.out.2 c hcn;obtain ⟨b3,o3,c3,n3,a3,l3,d3,e3,v0,v1,z3⟩:=HAA.out wr OB.out.2 i c (by omega) hcn;simp only [Value.slice.injEq] at e3;obtain ⟨rfl,-,rfl⟩:=e3;have hp3:i*n+c<N:=by rw [←HNN.out];exact zJC (by omega) hcn
   have k1:=zJB (i:=i) (c:=n) (by omega) hn;have k3:IntKind.i64.wrap (((i*n:Nat):Int)+(c:Int))=((i*n+c:Nat):Int):=by rw [zTA] <;> omega
   obtain ⟨q3,hq3⟩:∃q3,i*n=q3:=⟨_,rfl⟩
   rw [hq3] at hp3 k1 k3 v0 v1;obtain ⟨t3,ht3⟩:∃t3,q3+c=t3:=⟨_,rfl⟩
   rw [ht3] at hp3 k3 v0 v1;have hp3':(t3:Int)<(N:Int):=by omega
   have k1':=k1;rw [IntKind.wrap_i64] at k1';have k3':=k3;rw [IntKind.wrap_i64] at k3';obtain ⟨y,hy⟩:∃y,F c=y:=⟨_,rfl⟩
   obtain ⟨z,hz⟩:∃z,en18 n zs i c=z:=⟨_,rfl⟩
   rw [hy,hz] at hrd;rw [hy] at zf;rw [hz] at z3;obtain ⟨VY,hVY⟩:∃VY,wr.alloc (duo (.bool nf) (.slice af lf qf))=VY:=⟨_,rfl⟩
   obtain ⟨bY,szY⟩:=alo1 wr (duo (.bool nf) (.slice af lf qf));rw [hVY] at bY szY;have PX:Hid (Duo VY wr.heap.size (.bool nf) (.slice af lf qf)):=by unfold Hid;rw [←hVY];exact Duo.new wr _ _
   have ZX:=hid (zf.now bY);have Z3:=hid (z3.now bY);have OY:=hid (OB.out.step bY);have HS3:Hid (∀w',Below VY.heap.size VY w'→Calls Tryz.prog 33 #[.agg #[.bool nf,.slice af lf qf]] w' fun e w''=>e=.returned (.int .i64 (cmpI y 0))∧Below w'.heap.size w' w''):=fun w' hb=>zdC (ZX.out.now hb) HKW.out
   have hs3:¬cmpI y 0<0:=by
    unfold cmpI;rw [if_neg (by omega)]
    split <;> omega
   obtain ⟨sy,hsy⟩:∃sy,cmpI y 0=sy:=⟨_,rfl⟩
   simp only [hsy] at HS3;rw [hsy] at hs3;have HC3:Hid (∀w',Below VY.heap.size VY w'→Calls Tryz.prog 34 #[.agg #[.bool nf,.slice af lf qf],.agg #[.bool n3,.slice a3 l3 d3]] w' fun e w''=>e=.returned (.int .i64 (-1))∧Below w'.heap.size w' w''):=fun w' hb=>by
    have:=zyI (ZX.out.now hb) (Z3.out.now hb) HKW.out HK.out;rw [zpA hrd.2] at this;exact this
   obtain ⟨bx,hbx⟩:∃bx,wr.heap.size=bx:=⟨_,rfl⟩
   have p0:=PX.out.c0;have p1:=PX.out.c1;rw [hbx] at p0 p1;have g0:=cnow bY v0;have g1:=cnow bY v1;have kq:=cnow bY kl;have m1:=OY.out.1.at (i:=1) rfl;have m2:=OY.out.1.at (i:=2) rfl;have hdec:(decide (sy<0))=false:=by simpa using hs3
   have EY:=hid hVY;have EBX:=hid hbx;clear hrd zf z3 hy hz bY szY hVY hsy hq3 ht3 HG PX ZX Z3 kl0 hbx hc e2;go_wp2_with fail;rw [EY.out,EBX.out];clear EY EBX f0 f1 v0 v1 kl;have KB:Hid (∀w',Below VY.heap.size VY w'→w'.cell? ⟨bx,0,none⟩=some (.bool nf)∧w'.cell? ⟨bx,1,none⟩=some (.slice af lf qf)∧w'.cell? ⟨w.heap.size,1,none⟩=some (.int .i64 (n:Int))∧w'.cell? ⟨w.heap.size,2,none⟩=some (.slice (some ⟨b3,o3,none⟩) N ca)∧w'.cell? ⟨gl,i,none⟩=some (.int .i64 (c:Int))∧w'.cell? ⟨b3,o3+t3*2,none⟩=some (.bool n3)∧w'.cell? ⟨b3,o3+t3*2+1,none⟩=some (.slice a3 l3 d3)):=fun w' h=>⟨cnow h p0,cnow h p1,cnow h m1,cnow h m2,cnow h kq,cnow h g0,cnow h g1⟩
   refine zEA (fun w'=>w'.cell? ⟨bx,0,none⟩=some (.bool nf)∧w'.cell? ⟨bx,1,none⟩=some (.slice af lf qf)∧w'.cell? ⟨w.heap.size,1,none⟩=some (.int .i64 (n:Int))∧w'.cell? ⟨w.heap.size,2,none⟩=some (.slice (some ⟨b3,o3,none⟩) N ca)∧w'.cell? ⟨gl,i,none⟩=some (.int .i64 (c:Int))∧w'.cell? ⟨b3,o3+t3*2,none⟩=some (.bool n3)∧w'.cell? ⟨b3,o3+t3*2+1,none⟩=some (.slice a3 l3 d3)) 20 (by kernel_rfl) ?_;obtain ⟨D1,hD⟩:∃D1,VY.drew=D1:=⟨_,rfl⟩
   have GB:Hid (Below VY.heap.size VY D1):=by unfold Hid;rw [←hD];exact (Below.refl _ _).drew
   rw [hD];clear hD;refine zHA [(0,(.agg #[.bool nf,.slice af lf qf]))] 1 ?_ (KB.out _ GB.out) ?_
   ·simp only [zUA,gA9,g09,g19,Act.put,sI9,s09,s19]
    (repeat' (first | exact trivial | refine And.intro (Or.inl ⟨by rfl,?_⟩) ?_)) <;> (intro w hSw;(try dsimp only at hSw);go_simp)
   simp only [actV,gA9,g09,g19,Act.put,sI9,s09,s19];refine zAA (i:=1) (o:=⟨some 23,.call { callee:=.value (.func 33),args:=#[.tmp 22],argTypes:=#[47] },3, "plain.go:59",#[⟨0,.data⟩],none⟩) (by kernel_rfl) rfl (fun K hK=>?_);go_simp;go_at_call 33;refine (HS3.out _ GB.out).mono ?_;rintro e w2 ⟨rfl,b⟩;have lz2:=(show Below _ _ _ from b).size;replace GB:=hid (below_step GB.out b);clear b;refine hK.out _ _ (fun _=>KB.out _ GB.out) ?_;clear hK;refine zHA [(2,(.bool false)),(3,(.bool false)),(4,(.agg #[.bool nf,.slice af lf qf])),(5,(.pointer (some ⟨w.heap.size,2,none⟩))),(6,(.slice (some ⟨b3,o3,none⟩) N ca)),(7,(.int .i64 (i:Int))),(8,(.pointer (some ⟨w.heap.size,1,none⟩))),(9,(.int .i64 (n:Int))),(10,(.int .i64 (q3:Int))),(11,(.slice (some ⟨gl,0,none⟩) r cl)),(12,(.int .i64 (i:Int))),(13,(.pointer (some ⟨gl,i,none⟩))),(14,(.int .i64 (c:Int))),(15,(.int .i64 (t3:Int))),(16,(.pointer (some ⟨b3,o3+t3*2,none⟩))),(17,(.agg #[.bool n3,.slice a3 l3 d3]))] 16 ?_ (KB.out _ GB.out) ?_
   ·simp only [zUA,gA9,g09,g19,Act.put,sI9,s09,s19]
    (repeat' (first | exact trivial | refine And.intro (Or.inl ⟨by rfl,?_⟩) ?_)) <;> (intro w hSw;(try dsimp only at hSw);go_simp)
   simp only [actV,gA9,g09,g19,Act.put,sI9,s09,s19];refine zAA (i:=18) (o:=⟨some 40,.call { callee:=.value (.func 34),args:=#[.tmp 26,.tmp 39],argTypes:=#[47,47] },3, "plain.go:59",#[⟨4,.data⟩,⟨17,.data⟩,⟨3,.chain⟩,⟨3,.guard⟩],some (3,false)⟩) (by kernel_rfl) rfl (fun K hK=>?_);go_simp;go_at_call 34;refine (HC3.out _ GB.out).mono ?_;rintro e w3 ⟨rfl,b⟩;have lz3:=(show Below _ _ _ from b).size;replace GB:=hid (below_step GB.out b);clear b;refine hK.out _ _ (fun _=>KB.out _ GB.out) ?_;clear hK;refine zHA [(19,(.bool false))] 1 ?_ (KB.out _ GB.out) ?_
   ·simp only [zUA,gA9,g09,g19,Act.put,sI9,s09,s19]
    (repeat' (first | exact trivial | refine And.intro (Or.inl ⟨by rfl,?_⟩) ?_)) <;> (intro w hSw;(try dsimp only at hSw);go_simp)
   simp only [actV,gA9,g09,g19,Act.put,sI9,s09,s19];refine zAA (i:=20) (o:=⟨some 42,.pick (.tmp 25) (.const (.bool true)) (.tmp 41),4, "plain.go:59",#[⟨3,.data⟩,⟨19,.data⟩],none⟩) (by kernel_rfl) rfl (fun K hK=>?_);go_simp;refine hK.out _ _ (fun h=>absurd h (by decide)) ?_;clear hK
   try simp only [Act.put]
   refine zDA (by kernel_rfl) ?_ _;have HN1:Hid (zdJ w r (matc m n (.slice (some ⟨b3,o3,none⟩) N ca)) (r-(i+1)) (.int .i64 ((i+1:Nat):Int)) w3):=⟨i+1,rfl,by omega,rfl,OY.out.step GB.out⟩
   clear GB KB HS3 HC3 p0 p1 g0 g1 kq m1 m2 OB OY;go_wp2_with fail;go_roundg (r-(i+1))
   case rel=>exact HN1.out
   case measure=>exact HMM.out
  ·have hlt':¬(i:Int)<(r:Int):=by omega
   have FF:=hid OB.out.2;clear HG OB;go_wp2;go_ret;exact ⟨rfl,FF.out⟩
theorem Sh17.mono18 {B B' m n k:Nat} {w:World} {lv:Value} {gs:Nat→Nat} {L:Nat→Nat→Int} (h:Sh17 B w lv m n gs L k) (hB:B'≤B):Sh17 B' w lv m n gs L k:=by
 obtain ⟨h1,h4,h5⟩:=h;refine ⟨?_,h4,fun i hi=>⟨Nat.le_trans hB (h5 i hi).1,(h5 i hi).2⟩⟩;rcases h1 with h1 | ⟨h0,Lb,cap,r,e,e0,e1,e2⟩
 ·exact .inl h1
 ·exact .inr ⟨h0,Lb,cap,r,e,e0,Nat.le_trans hB e1,e2⟩
attribute [local go_sem] zCD
theorem against21 {w:World} {a:Option Addr} {l c:Nat}:Calls Tryz.prog 22 #[.slice a l c] w fun e w'=>∃Ba Bm,e=.returned (.agg #[hf1 Ba,hf2 Ba,hg3 Bm,hg4 Bm])∧w.heap.size≤Ba∧w.heap.size≤Bm∧Cel w' Ba 52 [.slice a l c]∧Cel w' Bm 61 (hd21 Ba)∧Below w.heap.size w w':=by
 obtain ⟨W0,hW⟩:∃W0,w.alloc (.cells #[.nilFunc,.nilFunc,.nilFunc,.nilFunc] 61)=W0:=⟨_,rfl⟩
 obtain ⟨b0,sz0⟩:=alo1 w (.cells #[.nilFunc,.nilFunc,.nilFunc,.nilFunc] 61);rw [hW] at b0 sz0;have dR:Cel W0 w.heap.size 61 [.nilFunc,.nilFunc,.nilFunc,.nilFunc]:=by rw [←hW];exact Cel.new w _ _
 have HAL:=hid (zrF (w:=W0) (a:=a) (l:=l) (c:=c));have DR:=hid dR;have B0:=hid b0;have SZ0:=hid sz0;have EW:=hid hW;clear dR b0 sz0 hW;go_enter Tryz.func22,Tryz.ntmps22;go_wp2_with fail;rw [EW.out];refine HAL.out.mono ?_;rintro e w1 ⟨rfl,dA,b1⟩;obtain ⟨Ba,hBa⟩:∃Ba,W0.heap.size=Ba:=⟨_,rfl⟩
 rw [hBa] at dA;rw [hBa];obtain ⟨V2,hV2⟩:∃V2,w1.alloc (.cells #[hf1 Ba,hf2 Ba,hf3 Ba,hf4 Ba] 61)=V2:=⟨_,rfl⟩
 obtain ⟨b2,sz2⟩:=alo1 w1 (.cells #[hf1 Ba,hf2 Ba,hf3 Ba,hf4 Ba] 61);rw [hV2] at b2 sz2;have dH:Cel V2 w1.heap.size 61 [hf1 Ba,hf2 Ba,hf3 Ba,hf4 Ba]:=by rw [←hV2];exact Cel.new w1 _ _
 have dR2:=DR.out.step (below_step b1 b2);have h0:=dH.at (i:=0) rfl;have h1:=dH.at (i:=1) rfl;have r0:=dR2.at (i:=0) rfl;have r1:=dR2.at (i:=1) rfl;have r2:=dR2.at (i:=2) rfl;have r3:=dR2.at (i:=3) rfl;have f0:=dR2.fz 0;have f1:=dR2.fz 1;have f2:=dR2.fz 2;have f3:=dR2.fz 3;have hs1:=b1.size;have hs0:=SZ0.out;obtain ⟨Bm,hBm⟩:∃Bm,w1.heap.size=Bm:=⟨_,rfl⟩
 rw [hBm] at dH h0 h1;have HBM:=hid hBm;have FF:Hid ((∃Ba' Bm',(Ending.returned (.agg #[hf1 Ba,hf2 Ba,hg3 Bm,hg4 Bm]))=.returned (.agg #[hf1 Ba',hf2 Ba',hg3 Bm',hg4 Bm'])∧w.heap.size≤Ba'∧w.heap.size≤Bm'∧Cel ((((V2.setCell ⟨w.heap.size,0,none⟩ (hf1 Ba)).setCell ⟨w.heap.size,1,none⟩ (hf2 Ba)).setCell ⟨w.heap.size,2,none⟩ (hg3 Bm)).setCell ⟨w.heap.size,3,none⟩ (hg4 Bm)) Ba' 52 [.slice a l c]∧Cel ((((V2.setCell ⟨w.heap.size,0,none⟩ (hf1 Ba)).setCell ⟨w.heap.size,1,none⟩ (hf2 Ba)).setCell ⟨w.heap.size,2,none⟩ (hg3 Bm)).setCell ⟨w.heap.size,3,none⟩ (hg4 Bm)) Bm' 61 (hd21 Ba')∧Below w.heap.size w ((((V2.setCell ⟨w.heap.size,0,none⟩ (hf1 Ba)).setCell ⟨w.heap.size,1,none⟩ (hf2 Ba)).setCell ⟨w.heap.size,2,none⟩ (hg3 Bm)).setCell ⟨w.heap.size,3,none⟩ (hg4 Bm)))
   ∧ Cel ((((V2.setCell ⟨w.heap.size,0,none⟩ (hf1 Ba)).setCell ⟨w.heap.size,1,none⟩ (hf2 Ba)).setCell ⟨w.heap.size,2,none⟩ (hg3 Bm)).setCell ⟨w.heap.size,3,none⟩ (hg4 Bm)) w.heap.size 61 [hf1 Ba,hf2 Ba,hg3 Bm,hg4 Bm]):=by
  have c4:=(((dR2.set 0 (hf1 Ba)).set 1 (hf2 Ba)).set 2 (hg3 Bm)).set 3 (hg4 Bm);refine ⟨⟨Ba,Bm,rfl,by omega,by omega,?_,?_,bset (bset (bset (bset (below_step B0.out (below_step b1 b2)) (Nat.le_refl _)) (Nat.le_refl _)) (Nat.le_refl _)) (Nat.le_refl _)⟩,c4⟩
  ·have ty:=(((Ty.set (i:=0) (u:=hf1 Ba) dR2).trans (Ty.set (i:=1) (u:=hf2 Ba) (dR2.set 0 (hf1 Ba)))).trans (Ty.set (i:=2) (u:=hg3 Bm) ((dR2.set 0 (hf1 Ba)).set 1 (hf2 Ba)))).trans (Ty.set (i:=3) (u:=hg4 Bm) (((dR2.set 0 (hf1 Ba)).set 1 (hf2 Ba)).set 2 (hg3 Bm)))
   exact (dA.step b2).ty13 ty (by decide)
  ·exact (((dH.ne (by omega)).ne (by omega)).ne (by omega)).ne (by omega)
 have EV2:=hid hV2;rw [←hV2] at h0 h1 r0 r1 r2 r3 f0 f1 f2 f3;clear HAL dA b1 b2 sz2 dH dR2 DR B0 SZ0 EW hV2 hs1 hs0 hBm hBa;go_wp2_with fail;rw [HBM.out,EV2.out];refine bodyPost_ret (zII Tryz.results22 FF.out.2 _ (by rfl)) rfl ?_;exact FF.out.1
theorem zWE {w:World} {n:Nat} (hn:n≤64):Calls Tryz.prog 20 #[.int .i64 (n:Int)] w fun e w'=>∃a c gs,e=.returned (.slice a n c)∧Sh17 w.heap.size w' (.slice a n c) n n gs dlz 1∧Below w.heap.size w w':=by
 have HU:=hid (unit_any (w:=w) hn);go_enter Tryz.func20,Tryz.ntmps20;go_wp2_with fail;refine HU.out.mono ?_;rintro e w1 ⟨v,rfl,hm,b1⟩;obtain ⟨aa,ca,rfl,-,-⟩:=hm.mx.form;dsimp only [matv] at hm ⊢;obtain ⟨ln,hln⟩:∃ln,n*n=ln:=⟨_,rfl⟩
 rw [hln] at hm ⊢;obtain ⟨V2,hV2⟩:∃V2,w1.alloc (.cells #[.int .i64 (n:Int),.int .i64 (n:Int),.slice aa ln ca] 24)=V2:=⟨_,rfl⟩
 obtain ⟨b2,sz2⟩:=alo1 w1 (.cells #[.int .i64 (n:Int),.int .i64 (n:Int),.slice aa ln ca] 24);rw [hV2] at b2 sz2;have d2:Cel V2 w1.heap.size 24 [.int .i64 (n:Int),.int .i64 (n:Int),.slice aa ln ca]:=by rw [←hV2];exact Cel.new w1 _ _
 have x0:=d2.at (i:=0) rfl;have x1:=d2.at (i:=1) rfl;have x2:=d2.at (i:=2) rfl;have HLI:=hid (zUD (hm.now b2).mx);have BB:=hid (below_step b1 b2);have EV:=hid hV2;rw [←hV2] at x0 x1 x2;have HSZ:Hid (w.heap.size≤V2.heap.size):=by unfold Hid;have:=b1.size;omega
 clear HU hm b1 b2 sz2 hV2 d2 hln;go_wp2_with fail;rw [EV.out];refine HLI.out.mono ?_;rintro e w2 ⟨lv,gs,rfl,q1,q2⟩;have hml:(rowsL n n (zfB n n)).length=n:=zLB;rw [hml] at q1;have q3:=q1.congr (L':=dlz) fun i j hi hj=>by
  rw [ziF (zKB n n) hi hj];unfold en18;rw [zpH hi hj];unfold dlz
  by_cases q:i=j
  ·rw [if_pos q,if_pos q.symm]
  ·rw [if_neg q,if_neg (Ne.symm q)]
 have q4:=q3.mono18 (B':=w.heap.size) HSZ.out;obtain ⟨lla,llc,rfl⟩:∃la lc,lv=.slice la n lc:=by
  rcases q1.1 with ⟨e,h⟩ | ⟨h0,Lb,cap,r,e,_⟩
  ·exact ⟨none,0,by rw [e];exact h⟩
  ·exact ⟨_,cap,e⟩
 have FF:=hid (show ∃a c gs,(Ending.returned (.slice lla n llc))=.returned (.slice a n c)∧Sh17 w.heap.size w2 (.slice a n c) n n gs dlz 1∧Below w.heap.size w w2 from ⟨_,_,gs,rfl,q4,below_step BB.out q2⟩);clear HLI q1 q2 q3 q4 BB x0 x1 x2 hml;go_wp2;go_ret;exact FF.out
end Go.Proofs.YtjjpodnjljfheaaGreat
namespace Go.Proofs.YtjjpodnjljfheaaGreat
open Go.RowKit
end Go.Proofs.YtjjpodnjljfheaaGreat
namespace Go.Proofs.YtjjpodnjljfheaaGreat
theorem turn_at {r c i j:Nat} {zs:List Int} (hi:i<r) (hj:j<c):(zgB r c zs).getD (j*r+i) 0=zs.getD (i*c+j) 0:=by
 unfold zgB;rw [zRG hi zZH (by simp [colsL];exact hj)];have e1:(colsL r c zs 0).getD j []=colL c zs 0 r j:=by simp [colsL,hj]
 rw [e1];simp [colL,hi]
open Go.RowKit
def zvD (n:Nat) (zs:List Int):Nat→Nat→Int:=fun i c=>if c<n then en18 n zs i c else dlz i (c-n)
theorem zrC {n:Nat} {zs:List Int} {i c:Nat} (h:c<n):zvD n zs i c=en18 n zs i c:=if_pos h
theorem zTC {n:Nat} {zs:List Int} {i c:Nat}:zvD n zs i (n+c)=dlz i c:=by
 unfold zvD;rw [if_neg (by omega),Nat.add_sub_cancel_left]
theorem turn_zG21 (m:Nat) (V:Nat→Nat→Int):zgB m m (zG18 m m V)=zG18 m m fun i k=>V k i:=by
 apply List.ext_getElem?
 intro t
 by_cases q:t<m*m
 ·have hm:0<m:=Nat.pos_of_ne_zero fun e=>by subst e;simp at q
  have h1:t / m<m:=Nat.div_lt_of_lt_mul q;have h2:t % m<m:=Nat.mod_lt _ hm;have e:t / m*m+t % m=t:=by rw [Nat.mul_comm];exact Nat.div_add_mod t m
  have a1:=turn_at (zs:=zG18 m m V) (r:=m) (c:=m) h2 h1;have a2:=zlB (F:=V) h2 h1;have a3:=zlB (F:=fun i k=>V k i) h1 h2;unfold en18 at a2 a3;rw [e] at a1 a3;have l1:(zgB m m (zG18 m m V)).length=m*m:=zHC;have l2:(zG18 m m fun i k=>V k i).length=m*m:=zMB m m _;rw [List.getElem?_eq_getElem (by omega),List.getElem?_eq_getElem (by omega)]
  congr 1
  have g1:(zgB m m (zG18 m m V))[t]'(by omega)=(zgB m m (zG18 m m V)).getD t 0:=by simp [List.getD_eq_getElem?_getD,show t<(zgB m m (zG18 m m V)).length by omega]
  have g2:(zG18 m m fun i k=>V k i)[t]'(by omega)=(zG18 m m fun i k=>V k i).getD t 0:=by simp [List.getD_eq_getElem?_getD,show t<(zG18 m m fun i k=>V k i).length by omega]
  rw [g1,g2,a1,a3];exact a2
 ·rw [List.getElem?_eq_none (by rw [zHC];omega),List.getElem?_eq_none (by rw [zMB];omega)]
def ztI (w:World) (m n:Nat) (A:Nat→Nat→Int) (t:Nat) (e:Ending) (w':World):Prop :=
 ∃aH lH cH aU lU cU aW lW cW r γ X V,e=.returned (.tuple #[.agg #[.int .i64 (m:Int),.int .i64 (n:Int),.slice aH lH cH,.int .i64 (m:Int),.int .i64 (m:Int),.slice aU lU cU,.int .i64 (m:Int),.int .i64 (m:Int),.slice aW lW cW],.int .i64 0])
  ∧ Mc w' (.agg #[.int .i64 (m:Int),.int .i64 (n:Int),.slice aH lH cH]) m n (zG18 m n X) t∧Mc w' (.agg #[.int .i64 (m:Int),.int .i64 (m:Int),.slice aU lU cU]) m m (zG18 m m fun i k=>X i (n+k)) t∧Mc w' (.agg #[.int .i64 (m:Int),.int .i64 (m:Int),.slice aW lW cW]) m m (zG18 m m fun i k=>V k i) (64*t+65)
  ∧ Hb18 m (n+m) m r id γ X A∧Iv21 m n X V∧Below w.heap.size w w'
def zlJ (n Bl Bh Bm b0 b1 b2:Nat) (v0 v1 v2:Value) (S:Nat→Prop):zKA:=⟨true,n,Bl,Bh,Bm,fun t=>if t=0 then b0 else if t=1 then b1 else b2,fun t=>if t=0 then v0 else if t=1 then v1 else v2,S⟩
def sh21 {α:Type} (x y z:α):Nat→α:=fun t=>if t=0 then x else if t=1 then y else z
theorem three21 {t:Nat} (h:t<3):t=0∨t=1∨t=2:=by omega
theorem Sh17.in21 {B m n k:Nat} {w:World} {lv:Value} {gs:Nat→Nat} {L:Nat→Nat→Int} (h:Sh17 B w lv m n gs L k):(∀i,i<m→B≤gs i∧gs i<w.heap.size)∧∀b l c,lv=.slice (some ⟨b,0,none⟩) l c→B≤b∧b<w.heap.size:=by
 obtain ⟨h1,h2,h3⟩:=h;refine ⟨fun i hi=>⟨(h3 i hi).1,(h3 i hi).2.blk⟩,fun b l c e=>?_⟩;rcases h1 with ⟨_,h1⟩ | ⟨_,Lb,cap,r,h1,_,h4,h5⟩
 ·rw [e] at h1;cases h1
 ·rw [e] at h1
  simp only [Value.slice.injEq,Option.some.injEq,Addr.mk.injEq,and_true,true_and] at h1;obtain ⟨rfl,-⟩:=h1;exact ⟨h4,h5.blk⟩
theorem start21 {B B1 B2 m n kw bs Bl Bh Bm b0 b1 b2:Nat} {V:World} {v0 v1 v2:Value} {g0 g1 g2:Nat→Nat} {zs:List Int}
  (hs:Cel V bs 66 [.slice (some ⟨Bl,0,none⟩) 2 2,.slice (some ⟨Bh,0,none⟩) 3 3,.slice none 0 0]) (hl:Cel V Bl 52 [v0,v1])
  (hh:Cel V Bh 61 [hf1 b0,hf2 b0,hf3 b0,hf4 b0,hf1 b1,hf2 b1,hf3 b1,hf4 b1,hf1 b2,hf2 b2,hg3 Bm,hg4 Bm])
  (ha0:Cel V b0 52 [v0]) (ha1:Cel V b1 52 [v1]) (ha2:Cel V b2 52 [v2]) (hm:Cel V Bm 61 (hd21 b2))
  {W1 W2 W3:World} (s0:Sh17 B W1 v0 m n g0 (en18 n zs) kw) (s1:Sh17 B1 W2 v1 m m g1 dlz 1) (s2:Sh17 B2 W3 v2 m m g2 dlz 1) (h01:W1.heap.size≤B1) (h12:W2.heap.size≤B2) (hB:B≤B1) (hB2:B1≤B2) (e1:Below W1.heap.size W1 V) (e2:Below W2.heap.size W2 V) (e3:Below W3.heap.size W3 V)
  (hn:n≤64) (hk1:1≤kw) (hK:kw≤10000000000) :
  zOA (zlJ n Bl Bh Bm b0 b1 b2 v0 v1 v2 fun b=>∃t i,t<3∧i<m∧b=sh21 g0 g1 g2 t i) B V bs (.slice none 0 0) m (n+m) 0 id id (zvD n zs) kw:=by
 have r0:=s0.in21;have r1:=s1.in21;have r2:=s2.in21;refine ⟨sh21 g0 g1 g2,sh21 (en18 n zs) dlz dlz,sh21 kw kw (64*kw+65),⟨hs,hl,hh,fun t ht=>?_,fun _=>hm,.inl ⟨rfl,rfl⟩,fun t ht=>?_,fun t u i j ht hu htu hi hj=>?_,fun b=>Iff.rfl,fun t u b l c l' c' ht hu el eu=>?_⟩,⟨hn,hk1,fun t ht h2=>?_,fun i c hi hc=>zrC hc,(fun h=>by cases h),fun _=>⟨rfl,rfl,hK⟩,fun _ i c hi hc=>zTC,fun _=>Iv21.unit (fun i k hi hk=>zTC) fun i k hi hk=>rfl⟩⟩
 ·rcases three21 ht with rfl | rfl | rfl
  ·exact ha0
  ·exact ha1
  ·exact ha2
 ·rcases three21 ht with rfl | rfl | rfl
  ·exact s0.now e1
  ·exact (s1.now e2).mono18 hB |>.more18 hk1
  ·exact (s2.now e3).mono18 (Nat.le_trans hB hB2) |>.more18 (by show 1≤64*kw+65;omega)
 ·have q1:=r1.1
  have q0:=r0.1;have q2:=r2.1;rcases three21 ht with rfl | rfl | rfl <;> rcases three21 hu with rfl | rfl | rfl
  ·exact absurd rfl htu
  ·show g0 i≠g1 j;have:=(q0 i hi).2;have:=(q1 j hj).1;omega
  ·show g0 i≠g2 j;have:=(q0 i hi).2;have:=(q2 j hj).1;omega
  ·show g1 i≠g0 j;have:=(q0 j hj).2;have:=(q1 i hi).1;omega
  ·exact absurd rfl htu
  ·show g1 i≠g2 j;have:=(q1 i hi).2;have:=(q2 j hj).1;omega
  ·show g2 i≠g0 j;have:=(q0 j hj).2;have:=(q2 i hi).1;omega
  ·show g2 i≠g1 j;have:=(q1 j hj).2;have:=(q2 i hi).1;omega
  ·exact absurd rfl htu
 ·rcases three21 ht with rfl | rfl | rfl <;> rcases three21 hu with rfl | rfl | rfl
  ·rfl
  ·have:=(r0.2 b _ _ el).2;have:=(r1.2 b _ _ eu).1;omega
  ·have:=(r0.2 b _ _ el).2;have:=(r2.2 b _ _ eu).1;omega
  ·have:=(r0.2 b _ _ eu).2;have:=(r1.2 b _ _ el).1;omega
  ·rfl
  ·have:=(r1.2 b _ _ el).2;have:=(r2.2 b _ _ eu).1;omega
  ·have:=(r0.2 b _ _ eu).2;have:=(r2.2 b _ _ el).1;omega
  ·have:=(r1.2 b _ _ eu).2;have:=(r2.2 b _ _ el).1;omega
  ·rfl
 ·rcases three21 ht with rfl | rfl | rfl
  ·rfl
  ·rfl
  ·exact absurd rfl h2
theorem end21 {B bs m n r kw t T Bl Bh Bm b0 b1 b2:Nat} {w:World} {v0 v1 v2 sv:Value} {S:Nat→Prop} {γ:Nat→Nat} {X:Nat→Nat→Int} {zs:List Int} (h:zOA (zlJ n Bl Bh Bm b0 b1 b2 v0 v1 v2 S) B w bs sv m (n+m) r id γ X kw) (hb:Hb18 m (n+m) m r id γ X (zvD n zs)) (hTb:Tb18 m (n+m) (zvD n zs) T) (hkt:((T:Nat):Int)<pw t) (hm:m≤64) :
  ∃g0 g1 g2 V,Sh17 B w v0 m n g0 X kw∧Sh17 B w v1 m m g1 (fun i k=>X i (n+k)) kw∧Sh17 B w v2 m m g2 V (64*kw+65)∧Iv21 m n X V∧(∀i c,i<m→c<n+m→((X i c).natAbs:Int)<pw t)∧∀i c,i<m→c<m→((V i c).natAbs:Int)<pw (64*t+65):=by
 obtain ⟨gs,Z,kz,h1,h2⟩:=h;have n2:=h2.n2 rfl;have hX:∀i c,i<m→c<n+m→((X i c).natAbs:Int)<pw t:=fun i c hi hc=>by
  have:=hb.size hTb (Nat.le_refl _) i c hi hc;omega
 have ht1:1≤t:=by
  rcases Nat.eq_zero_or_pos t with q | q
  ·subst q
   have:pw 0=1:=rfl;have:=hTb.one;omega
  ·exact q
 have k0:=h2.k0 0 (show 0<3 by omega) (by decide);have k1:=h2.k0 1 (show 1<3 by omega) (by decide);have q0:=h1.sh 0 (show 0<3 by omega);have q1:=h1.sh 1 (show 1<3 by omega);have q2:=h1.sh 2 (show 2<3 by omega);rw [k0] at q0;rw [k1] at q1;rw [n2.2.1] at q2;exact ⟨gs 0,gs 1,gs 2,Z 2,q0.congr fun i j hi hj=>(h2.x0 i j hi hj).symm,q1.congr fun i j hi hj=>(h2.x1 rfl i j hi hj).symm,q2,h2.iv rfl,hX,fun i c hi hc=>zKE (h2.iv rfl) hm ht1 (fun a k ha hk=>hX a (n+k) ha (by omega)) i c hi hc⟩
end Go.Proofs.YtjjpodnjljfheaaGreat
