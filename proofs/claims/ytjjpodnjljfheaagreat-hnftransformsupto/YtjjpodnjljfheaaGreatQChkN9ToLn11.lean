/-
 QChkN9ToLn11: ChkN9, LeastA9, EachM11, Ln11, joined.
-/
import Derived.Test.YtjjpodnjljfheaaGreatQTurn9
import Derived.Test.YtjjpodnjljfheaaGreatQUnit9ToDz12
import Derived.Test.YtjjpodnjljfheaaGreatQLm6ToWk9

set_option maxRecDepth 100000
set_option maxHeartbeats 6400000
set_option linter.unusedVariables false
set_option linter.unusedSimpArgs false
namespace Go.Proofs.YtjjpodnjljfheaaGreat
open Go.RowKit
theorem isShape_raw {w:World} {r c:Int}:Calls Tryz.prog 36 #[.int .i64 r,.int .i64 c] w fun e w'=>e=.returned (.bool (decide (0≤r∧0≤c∧r≤64∧c≤64)))∧w'=w:=by
 by_cases h1:0≤min r c
 ·by_cases h2:max r c≤64
  ·have e:decide (0≤r∧0≤c∧r≤64∧c≤64)=true:=by rw [decide_eq_true_eq];omega
   rw [e];clear e;go_enter Tryz.func36,Tryz.ntmps36;go_wp2;go_ret;exact ⟨rfl,rfl⟩
  ·have e:decide (0≤r∧0≤c∧r≤64∧c≤64)=false:=by rw [decide_eq_false_iff_not];omega
   rw [e];clear e;go_enter Tryz.func36,Tryz.ntmps36;go_wp2;go_ret;exact ⟨rfl,rfl⟩
 ·have e:decide (0≤r∧0≤c∧r≤64∧c≤64)=false:=by rw [decide_eq_false_iff_not];omega
  rw [e];clear e;go_enter Tryz.func36,Tryz.ntmps36;go_wp2;go_ret;exact ⟨rfl,rfl⟩
theorem check_no {w:World} {r c:Int} {a:Option Addr} {l cap:Nat} (h:¬Snd r c l):Calls Tryz.prog 18 #[.agg #[.int .i64 r,.int .i64 c,.slice a l cap]] w fun e w'=>e=.returned (.int .i64 1)∧Below w.heap.size w w':=by
 obtain ⟨W0,hW⟩:∃W0,w.alloc (.cells #[.int .i64 r,.int .i64 c,.slice a l cap] 24)=W0:=⟨_,rfl⟩
 obtain ⟨b0,sz0⟩:=alo1 w (.cells #[.int .i64 r,.int .i64 c,.slice a l cap] 24);rw [hW] at b0 sz0;have P1:Hid (Cel W0 w.heap.size 24 [.int .i64 r,.int .i64 c,.slice a l cap]):=by unfold Hid;rw [←hW];exact Cel.new w _ _
 have x0:=P1.out.at (i:=0) rfl;have x1:=P1.out.at (i:=1) rfl;have x2:=P1.out.at (i:=2) rfl;rw [←hW] at x0 x1 x2;have HS:=hid (isShape_raw (w:=W0) (r:=r) (c:=c));have G0:=hid b0;have EW:=hid hW;clear b0 sz0 hW P1
 by_cases hs:0≤r∧0≤c∧r≤64∧c≤64
 ·have e:decide (0≤r∧0≤c∧r≤64∧c≤64)=true:=decide_eq_true hs
  rw [e] at HS;have hm:0≤r*c∧r*c≤64*64:=⟨Int.mul_nonneg hs.1 hs.2.1,Int.mul_le_mul hs.2.2.1 hs.2.2.2 hs.2.1 (by omega)⟩
  have hw:IntKind.i64.wrap (r*c)=r*c:=by rw [zTA] <;> omega
  obtain ⟨q,hq⟩:∃q,r*c=q:=⟨_,rfl⟩
  have hne:¬((l:Int)=q):=fun h2=>h ⟨hs.1,hs.2.2.1,hs.2.1,hs.2.2.2,h2.trans hq.symm⟩
  replace hw:IntKind.i64.wrap (r*c)=q:=hw.trans hq;have hw2:=hw;rw [IntKind.wrap_i64] at hw2;have q0:((l:Int) != q)=true:=by simpa using hne
  clear h hs e hm hq hne;go_enter Tryz.func18,Tryz.ntmps18;go_wp2_with fail;rw [EW.out];refine HS.out.mono ?_;rintro e w1 ⟨rfl,rfl⟩;rw [EW.out] at x0 x1 x2;go_wp2;go_ret;exact ⟨rfl,G0.out⟩
 ·have e:decide (0≤r∧0≤c∧r≤64∧c≤64)=false:=decide_eq_false hs
  rw [e] at HS;clear h hs e;go_enter Tryz.func18,Tryz.ntmps18;go_wp2_with fail;rw [EW.out];refine HS.out.mono ?_;rintro e w1 ⟨rfl,rfl⟩;go_wp2;go_ret;exact ⟨rfl,G0.out⟩
theorem Fil.doneA {w:World} {g n:Nat} {F:Nat→Int} {k:Nat} (h:Fil w g n n F k):∃ps,Arr w g ps∧ps.length=n∧Zcs w ps ((List.range n).map F) k:=by
 obtain ⟨ps,h1,rfl,h3⟩:=h;refine ⟨ps,h1,rfl,by simp,fun j p z hp hz=>?_⟩;have hj:j<ps.length:=(List.getElem?_eq_some_iff.1 hp).1;rw [List.getElem?_map,List.getElem?_range hj,Option.map_some,Option.some.injEq] at hz;subst hz;exact h3 j p hj hp
def zuG (w:World) (zs:List Int) (k:Nat) (e:Ending) (w':World):Prop:=∃g n ps,e=.returned (.slice (some ⟨g,0,none⟩) n n)∧w.heap.size≤g∧ps.length=n∧Arr w' g ps∧Zcs w' ps zs k∧Below w.heap.size w w'
def zLJ (w:World) (r c:Nat) (zs:List Int) (k:Nat) (e:Ending) (w':World):Prop:=∃g n ps,e=.returned (matv r c (.slice (some ⟨g,0,none⟩) n n))∧w.heap.size≤g∧ps.length=n∧Arr w' g ps∧Zcs w' ps zs k∧Below w.heap.size w w'
def zhI (w:World) (r c:Nat) (zs:List Int) (k:Nat) (e:Ending) (w':World):Prop:=∃g n ps,e=.returned (.tuple #[matv r c (.slice (some ⟨g,0,none⟩) n n),.int .i64 0])∧w.heap.size≤g∧ps.length=n∧Arr w' g ps∧Zcs w' ps zs k∧Below w.heap.size w w'
theorem eachLeastA_any {w:World} {B k:Nat} {v:Value} {ps:List (Value×Value)} {zs:List Int} (hv:Prs B w v ps) (hz:Zis w ps zs k) :
  Calls Tryz.prog 64 #[v,zoE] w (zuG w zs k):=by
 have V0:=hid (zNJ hv hz);have HMP:Hid (zs=(List.range zs.length).map fun j=>zs.getD j 0):=by
  unfold Hid
  apply List.ext_getElem
  ·simp
  ·intro j h1 h2
   simp [h1]
 obtain ⟨a0,c0,rfl,hc0,hn0,hf0⟩:=V0.out.form9;obtain ⟨n,hn⟩:∃n,zs.length=n:=⟨_,rfl⟩
 rw [hn] at V0 hc0 hn0 HMP ⊢;have HN:=hid hn;have F0:=hid hf0;clear hv hz hf0 hn;go_enter Tryz.func64,Tryz.ntmps64;go_wp2_with (at_make;refine zhA _ rfl _ _ rfl _ _ n n rfl rfl rfl rfl (Nat.le_refl _) (by omega) ?_)
 intro w1 hrow hb1 hsz1;have H0:Hid (zfH w w.heap.size n (fun j=>zs.getD j 0) k n (.int .i64 0) w1):=⟨0,rfl,Nat.zero_le _,by omega,Fil.start hrow _ _,hb1⟩
 clear hrow hb1 hsz1;go_wp2_with fail
 go_loopg [13] n (fun gk s13 wx=>zfH w w.heap.size n (fun j=>zs.getD j 0) k gk s13 wx)
 case atStart=>exact H0.out
 case round =>
  clear H0;obtain ⟨i,rfl,hin,hg,hfil,hG⟩:=hrel;have FI:=hid hfil;have G:=hid hG;have HG:=hid hg;clear hfil hG hg
  by_cases hlt:i<n
  ·have hlt':(i:Int)<(n:Int):=by omega
   obtain ⟨b1,o1,rfl⟩:=F0.out (fun e=>by have:=HN.out;rw [e] at this;simp at this;omega);obtain ⟨nf,xf,adf,qf,k0,k1,zf⟩:=(V0.out.now G.out).at9 (i:=i) (by rw [HN.out];exact hlt);rw [zmG] at zf;obtain ⟨V1,hV⟩:∃V1,wr.alloc (duo (.bool nf) (.slice adf xf.length qf))=V1:=⟨_,rfl⟩
   obtain ⟨b,sz1⟩:=alo1 wr (duo (.bool nf) (.slice adf xf.length qf));rw [hV] at b sz1;have PN:Hid (Duo V1 wr.heap.size (.bool nf) (.slice adf xf.length qf)):=by unfold Hid;rw [←hV];exact Duo.new wr _ _
   have HS:=hid (zkG (zf.now b));have FI0:=hid (FI.out.step b);have G0:=hid (below_step G.out b);have n0:=PN.out.c0;have n1:=PN.out.c1;rw [←hV] at n0 n1;have EV:=hid hV;have hw:=zbA (i:=i) (by omega);clear zf b sz1 hV PN FI G;go_wp2_with fail;rw [EV.out];refine HS.out.mono ?_;rintro e w1 ⟨r,rfl,m1,b⟩;have FI1:=hid (FI0.out.step b);have G1:=hid (below_step G0.out b);have M1:=hid m1.zc;obtain ⟨nr,xr,ar,cr,rfl⟩:=m1.parts;obtain ⟨m0,am,lm,cm,e0,e1,e2,e3⟩:=FI1.out.cells hlt;have HN1:Hid (zfH w w.heap.size n (fun j=>zs.getD j 0) k (n-(i+1)) (.int .i64 ((i+1:Nat):Int)) ((w1.setCell ⟨w.heap.size,i*2,none⟩ (.bool nr)).setCell ⟨w.heap.size,i*2+1,none⟩ (.slice ar xr.length cr))) :=
    ⟨i+1,rfl,by omega,rfl,FI1.out.put hlt M1.out,bset (bset G1.out (Nat.le_refl _)) (Nat.le_refl _)⟩
   have HMM:Hid (n-(i+1)<gk):=by unfold Hid;rw [HG.out];omega
   clear HS FI0 G0 HG FI1 G1 M1 m1 b k0 k1 n0 n1 EV;go_wp2_with fail;go_roundg (n-(i+1))
   case rel=>exact HN1.out
   case measure=>exact HMM.out
  ·have hlt':¬(i:Int)<(n:Int):=by omega
   obtain rfl:i=n:=by omega
   obtain ⟨ps,p1,pl,p2⟩:=FI.out.doneA;rw [←HMP.out] at p2;have FIN:Hid (zuG w zs k (.returned (.slice (some ⟨w.heap.size,0,none⟩) i i)) wr):=⟨_,_,ps,rfl,Nat.le_refl _,pl,p1,p2,G.out⟩
   clear FI G HG p1 p2 pl;go_wp2;go_ret;exact FIN.out
theorem least9A_any {w:World} {v:Value} {r c:Nat} {zs:List Int} {k:Nat} (h:Mx w v r c zs k):Calls Tryz.prog 51 #[v] w (zLJ w r c zs k):=by
 obtain ⟨at_,ps,rfl,p1,p2,p3,hr,hc⟩:=h;obtain ⟨W0,hW⟩:∃W0,(w.alloc (matO r c at_)).alloc mbox=W0:=⟨_,rfl⟩
 obtain ⟨b0,sz0⟩:=zXA w (matO r c at_) mbox;rw [hW] at b0 sz0;obtain ⟨pa,pr⟩:=zaC (o1:=matc r c at_) hW;have PR:=hid pr;have HS:Hid (∀w',Below W0.heap.size W0 w'→Calls Tryz.prog 64 #[at_,zoE] w' (zuG w' zs k)):=fun w' hb=>eachLeastA_any ((p1.now b0).now hb) ((p2.now b0).now hb)
 have HL:=hid p3;obtain ⟨aa,ca,rfl,-,-,-,-⟩:=p1.form;generalize ps.length=la at *;have k0:=pa.at (i:=0) rfl;have k1:=pa.at (i:=1) rfl;have k2:=pa.at (i:=2) rfl;have G:=hid b0;have EW:=hid hW;have SZ:=hid sz0;clear p1 p2 p3 b0 sz0 hW pa pr;go_enter Tryz.func51,Tryz.ntmps51;go_wp2_with fail;rw [EW.out];clear EW;have KB:Hid (∀w',Below W0.heap.size W0 w'→w'.cell? ⟨w.heap.size,0,none⟩=some (.int .i64 (r:Int))∧w'.cell? ⟨w.heap.size,1,none⟩=some (.int .i64 (c:Int))∧w'.cell? ⟨w.heap.size,2,none⟩=some (.slice aa la ca)):=fun w' h=>⟨cnow h k0,cnow h k1,cnow h k2⟩
 refine zEA (fun w'=>w'.cell? ⟨w.heap.size,0,none⟩=some (.int .i64 (r:Int))∧w'.cell? ⟨w.heap.size,1,none⟩=some (.int .i64 (c:Int))∧w'.cell? ⟨w.heap.size,2,none⟩=some (.slice aa la ca)) 8 (by kernel_rfl) ?_;obtain ⟨D1,hD⟩:∃D1,W0.drew=D1:=⟨_,rfl⟩
 have GB:Hid (Below W0.heap.size W0 D1):=by unfold Hid;rw [←hD];exact (Below.refl _ _).drew
 rw [hD];clear hD;have HD1:=hid GB.out.size;refine zBA (i:=0) (oi:=⟨some 3,.fieldAddr 24 (.tmp 1) 0,0, "mat.go:102",#[],none⟩) (v:=(.pointer (some ⟨w.heap.size,0,none⟩))) rfl (by kernel_rfl) (fun _ _ _ h=>h) (Or.inl ⟨by rfl,?_⟩) (KB.out _ GB.out) ?_
 ·intro w hSw;(try dsimp only at hSw);go_simp
 simp only [Act.put,sIb,sC0,sC1];refine zBA (i:=1) (oi:=⟨some 4,.load 3 (.tmp 3),3, "mat.go:102",#[⟨0,.data⟩],none⟩) (v:=(.int .i64 (r:Int))) rfl (by kernel_rfl) (fun _ _ _ h=>h) (Or.inl ⟨by rfl,?_⟩) (KB.out _ GB.out) ?_
 ·intro w hSw;(try dsimp only at hSw);go_simp
 simp only [Act.put,sIb,sC0,sC1];refine zBA (i:=2) (oi:=⟨some 5,.fieldAddr 24 (.tmp 1) 1,0, "mat.go:102",#[],none⟩) (v:=(.pointer (some ⟨w.heap.size,1,none⟩))) rfl (by kernel_rfl) (fun _ _ _ h=>h) (Or.inl ⟨by rfl,?_⟩) (KB.out _ GB.out) ?_
 ·intro w hSw;(try dsimp only at hSw);go_simp
 simp only [Act.put,sIb,sC0,sC1];refine zBA (i:=3) (oi:=⟨some 6,.load 3 (.tmp 5),3, "mat.go:102",#[⟨2,.data⟩],none⟩) (v:=(.int .i64 (c:Int))) rfl (by kernel_rfl) (fun _ _ _ h=>h) (Or.inl ⟨by rfl,?_⟩) (KB.out _ GB.out) ?_
 ·intro w hSw;(try dsimp only at hSw);go_simp
 simp only [Act.put,sIb,sC0,sC1];refine zBA (i:=4) (oi:=⟨some 7,.fieldAddr 24 (.tmp 1) 2,0, "mat.go:102",#[],none⟩) (v:=(.pointer (some ⟨w.heap.size,2,none⟩))) rfl (by kernel_rfl) (fun _ _ _ h=>h) (Or.inl ⟨by rfl,?_⟩) (KB.out _ GB.out) ?_
 ·intro w hSw;(try dsimp only at hSw);go_simp
 simp only [Act.put,sIb,sC0,sC1];refine zBA (i:=5) (oi:=⟨some 8,.load 22 (.tmp 7),22, "mat.go:102",#[⟨4,.data⟩],none⟩) (v:=(.slice aa la ca)) rfl (by kernel_rfl) (fun _ _ _ h=>h) (Or.inl ⟨by rfl,?_⟩) (KB.out _ GB.out) ?_
 ·intro w hSw;(try dsimp only at hSw);go_simp
 simp only [Act.put,sIb,sC0,sC1];refine zAA (i:=6) (o:=⟨some 9,.call { callee:=.value (.func 64),args:=#[.tmp 8,.func 65],argTypes:=#[22,81] },22, "mat.go:102",#[⟨5,.data⟩],none⟩) (by kernel_rfl) rfl (fun K hK=>?_);go_simp;go_at_call 64;refine (HS.out _ GB.out).mono ?_;rintro e w2 ⟨g,n,qs,rfl,hge,hpl,q1,q2,b⟩;have lz2:=(show Below _ _ _ from b).size;replace GB:=hid (below_step GB.out b);have PR9:=hid (PR.out.step GB.out);have G9:=hid (below_step G.out GB.out);have Q1:=hid q1;have Q2:=hid q2;have lz0:=GB.out.size;have HGE:Hid (W0.heap.size≤g):=by unfold Hid;have:=HD1.out;omega
 clear q1 q2;clear b;refine hK.out _ _ (fun _=>KB.out _ GB.out) ?_;clear hK;refine zBA (i:=7) (oi:=⟨some 10,.build 24 #[(0,.tmp 4),(1,.tmp 6),(2,.tmp 9)],24, "mat.go:102",#[⟨1,.data⟩,⟨3,.data⟩,⟨6,.data⟩],none⟩) (v:=(.agg #[.int .i64 (r:Int),.int .i64 (c:Int),.slice (some ⟨g,0,none⟩) n n])) rfl (by kernel_rfl) (fun _ _ _ h=>h) (Or.inl ⟨by rfl,?_⟩) (KB.out _ GB.out) ?_
 ·intro w hSw;(try dsimp only at hSw);go_simp
 simp only [Act.put,sIb,sC0,sC1];refine zAA (i:=8) (o:=⟨none,.store 24 (.tmp 2) (.tmp 10),0, "mat.go:102",#[⟨7,.data⟩,⟨6,.chain⟩,⟨0,.phase⟩,⟨1,.phase⟩,⟨2,.phase⟩,⟨3,.phase⟩,⟨4,.phase⟩,⟨5,.phase⟩,⟨6,.phase⟩,⟨7,.phase⟩],none⟩) (by kernel_rfl) rfl (fun K hK=>?_);have e0:=PR9.out.at (i:=0) rfl;have e1:=PR9.out.at (i:=1) rfl;have e2:=PR9.out.at (i:=2) rfl;have e3:=PR9.out.fz 0;have e4:=PR9.out.fz 1;have e5:=PR9.out.fz 2;go_simp;clear e0 e1 e2 e3 e4 e5;obtain ⟨V3,hW⟩:∃V3,(((w2.setCell ⟨w.heap.size+1,0,none⟩ (.int .i64 (r:Int))).setCell ⟨w.heap.size+1,1,none⟩ (.int .i64 (c:Int))).setCell ⟨w.heap.size+1,2,none⟩ (.slice (some ⟨g,0,none⟩) n n))=V3:=⟨_,rfl⟩
 have PF:Hid (Cel V3 (w.heap.size+1) 24 [(.int .i64 (r:Int)),(.int .i64 (c:Int)),(.slice (some ⟨g,0,none⟩) n n)]):=by unfold Hid;rw [←hW];exact PR9.out.put3 _ _ _
 have FIN:Hid (zLJ w r c zs k (.returned (.agg #[.int .i64 (r:Int),.int .i64 (c:Int),.slice (some ⟨g,0,none⟩) n n])) V3):=by
  unfold Hid;rw [←hW];exact ⟨g,n,qs,rfl,by have:=SZ.out;have:=HGE.out;omega,hpl,Q1.out.put3 (by have:=SZ.out;have:=HGE.out;omega) _ _ _,Q2.out.wk (PR9.out.wk3 _ _ _),zVA G9.out (by omega) _ _ _⟩
 rw [hW];clear hW;refine hK.out _ _ (fun h=>absurd h (by decide)) ?_;clear hK
 try simp only [Act.put]
 refine zDA (by kernel_rfl) ?_ _;clear GB KB;go_wp2;exact bodyPost_ret (zJG Tryz.results51 PF.out _ (by rfl)) rfl FIN.out
theorem leastA_yes {w:World} {v:Value} {r c:Nat} {zs:List Int} {k:Nat} (h:Mx w v r c zs k):Calls Tryz.prog 61 #[v] w (zhI w r c zs k):=by
 have M0:=hid h;obtain ⟨aa,ca,rfl,hr,hc⟩:=h.form;obtain ⟨la,hla⟩:∃la,r*c=la:=⟨_,rfl⟩
 rw [hla] at M0 ⊢;obtain ⟨W0,hW⟩:∃W0,(w.alloc (matO r c (.slice aa la ca))).alloc mbox=W0:=⟨_,rfl⟩
 obtain ⟨b0,sz0⟩:=zXA w (matO r c (.slice aa la ca)) mbox;rw [hW] at b0 sz0;obtain ⟨pa,pr⟩:=zaC (o1:=matc r c (.slice aa la ca)) hW;have HCK:=hid (zfC (M0.out.now b0));have x0:=pa.at (i:=0) rfl;have x1:=pa.at (i:=1) rfl;have x2:=pa.at (i:=2) rfl;rw [←hW] at x0 x1 x2;have PA:=hid pa;have PR:=hid pr;have G0:=hid b0;have EW:=hid hW;replace M0:=hid (M0.out.now b0);have HRC:=hid hla;clear h hla b0 sz0 hW pa pr;go_enter Tryz.func61,Tryz.ntmps61;go_wp2_with fail;rw [EW.out];refine HCK.out.mono ?_;rintro e w1 ⟨rfl,b⟩;have HLE:=hid (least9A_any (M0.out.now b));have PR1:=hid (PR.out.step b);have G1:=hid (below_step G0.out b);have z0:=(PA.out.step b).at (i:=0) rfl;have z1:=(PA.out.step b).at (i:=1) rfl;have z2:=(PA.out.step b).at (i:=2) rfl;clear HCK b x0 x1 x2 EW PA PR G0 M0;go_wp2_with fail;refine HLE.out.mono ?_;rintro e w3 ⟨g,n,qs,rfl,hge,hpl,q1,q2,b⟩;have PR3:=hid (PR1.out.step b);have G3:=hid (below_step G1.out b);have HWW:Hid (w.heap.size+1<g):=by unfold Hid;have h1:=PR1.out.blk;omega
 have FIN:Hid (zhI w r c zs k (.returned (.tuple #[.agg #[.int .i64 (r:Int),.int .i64 (c:Int),.slice (some ⟨g,0,none⟩) n n],.int .i64 0])) (put3 w3 (w.heap.size+1) (.int .i64 (r:Int)) (.int .i64 (c:Int)) (.slice (some ⟨g,0,none⟩) n n))) :=
  ⟨g,n,qs,rfl,by have:=G1.out.size;omega,hpl,q1.put3 (by have:=HWW.out;omega) _ _ _,q2.wk (PR3.out.wk3 _ _ _),zVA G3.out (by omega) _ _ _⟩
 have PF:=hid (PR3.out.put3 (.int .i64 (r:Int)) (.int .i64 (c:Int)) (.slice (some ⟨g,0,none⟩) n n));have r0:=PR3.out.at (i:=0) rfl;have r1:=PR3.out.at (i:=1) rfl;have r2:=PR3.out.at (i:=2) rfl;have f0:=PR3.out.fz 0;have f1:=PR3.out.fz 1;have f2:=PR3.out.fz 2;clear HLE b q1 q2 PR1 G1 z0 z1 z2;go_wp2;exact bodyPost_ret (zWC Tryz.results61 PF.out _ (by rfl) (by rfl)) rfl FIN.out
theorem FilM.doneN {w:World} {g n:Nat} {F:Nat→Int} {k:Nat} (h:FilM w g n n F k):∃ps,Arr w g ps∧ps.length=n∧Zms w ps ((List.range n).map F) k:=by
 obtain ⟨ps,h1,rfl,h3⟩:=h;refine ⟨ps,h1,rfl,by simp,fun j p z hp hz=>?_⟩;have hj:j<ps.length:=(List.getElem?_eq_some_iff.1 hp).1;rw [List.getElem?_map,List.getElem?_range hj,Option.map_some,Option.some.injEq] at hz;subst hz;exact h3 j p hj hp
def zfJ (w:World) (g n:Nat) (F:Nat→Int) (k gk:Nat) (s:Value) (wx:World):Prop:=∃i:Nat,s=.int .i64 (i:Int)∧i≤n∧gk=n-i∧FilM wx g n i F k∧Below w.heap.size w wx
def zdI (w:World) (zs:List Int) (k:Nat) (e:Ending) (w':World):Prop:=∃g n ps,e=.returned (.slice (some ⟨g,0,none⟩) n n)∧w.heap.size≤g∧ps.length=n∧Arr w' g ps∧Zms w' ps zs k∧Below w.heap.size w w'
theorem eachLeastM_any {w:World} {B k:Nat} {v:Value} {ps:List (Value×Value)} {zs:List Int} (hv:Prs B w v ps) (hz:Zis w ps zs k) :
  Calls Tryz.prog 64 #[v,zoE] w (zdI w zs k):=by
 have V0:=hid (zNJ hv hz);have HMP:Hid (zs=(List.range zs.length).map fun j=>zs.getD j 0):=by
  unfold Hid
  apply List.ext_getElem
  ·simp
  ·intro j h1 h2
   simp [h1]
 obtain ⟨a0,c0,rfl,hc0,hn0,hf0⟩:=V0.out.form9;obtain ⟨n,hn⟩:∃n,zs.length=n:=⟨_,rfl⟩
 rw [hn] at V0 hc0 hn0 HMP ⊢;have HN:=hid hn;have F0:=hid hf0;clear hv hz hf0 hn;go_enter Tryz.func64,Tryz.ntmps64;go_wp2_with (at_make;refine zhA _ rfl _ _ rfl _ _ n n rfl rfl rfl rfl (Nat.le_refl _) (by omega) ?_)
 intro w1 hrow hb1 hsz1;have H0:Hid (zfJ w w.heap.size n (fun j=>zs.getD j 0) k n (.int .i64 0) w1):=⟨0,rfl,Nat.zero_le _,by omega,FilM.start hrow _ _,hb1⟩
 clear hrow hb1 hsz1;go_wp2_with fail
 go_loopg [13] n (fun gk s13 wx=>zfJ w w.heap.size n (fun j=>zs.getD j 0) k gk s13 wx)
 case atStart=>exact H0.out
 case round =>
  clear H0;obtain ⟨i,rfl,hin,hg,hfil,hG⟩:=hrel;have FI:=hid hfil;have G:=hid hG;have HG:=hid hg;clear hfil hG hg
  by_cases hlt:i<n
  ·have hlt':(i:Int)<(n:Int):=by omega
   obtain ⟨b1,o1,rfl⟩:=F0.out (fun e=>by have:=HN.out;rw [e] at this;simp at this;omega);obtain ⟨nf,xf,adf,qf,k0,k1,zf⟩:=(V0.out.now G.out).at9 (i:=i) (by rw [HN.out];exact hlt);rw [zmG] at zf;obtain ⟨V1,hV⟩:∃V1,wr.alloc (duo (.bool nf) (.slice adf xf.length qf))=V1:=⟨_,rfl⟩
   obtain ⟨b,sz1⟩:=alo1 wr (duo (.bool nf) (.slice adf xf.length qf));rw [hV] at b sz1;have PN:Hid (Duo V1 wr.heap.size (.bool nf) (.slice adf xf.length qf)):=by unfold Hid;rw [←hV];exact Duo.new wr _ _
   have HS:=hid (zkG (zf.now b));have FI0:=hid (FI.out.step b);have G0:=hid (below_step G.out b);have n0:=PN.out.c0;have n1:=PN.out.c1;rw [←hV] at n0 n1;have EV:=hid hV;have hw:=zbA (i:=i) (by omega);clear zf b sz1 hV PN FI G;go_wp2_with fail;rw [EV.out];refine HS.out.mono ?_;rintro e w1 ⟨r,rfl,m1,b⟩;have FI1:=hid (FI0.out.step b);have G1:=hid (below_step G0.out b);have M1:=hid (m1.mono (Nat.zero_le _));obtain ⟨nr,xr,ar,cr,rfl⟩:=m1.parts;obtain ⟨m0,am,lm,cm,e0,e1,e2,e3⟩:=FI1.out.cells hlt;have HN1:Hid (zfJ w w.heap.size n (fun j=>zs.getD j 0) k (n-(i+1)) (.int .i64 ((i+1:Nat):Int)) ((w1.setCell ⟨w.heap.size,i*2,none⟩ (.bool nr)).setCell ⟨w.heap.size,i*2+1,none⟩ (.slice ar xr.length cr))) :=
    ⟨i+1,rfl,by omega,rfl,FI1.out.put hlt M1.out,bset (bset G1.out (Nat.le_refl _)) (Nat.le_refl _)⟩
   have HMM:Hid (n-(i+1)<gk):=by unfold Hid;rw [HG.out];omega
   clear HS FI0 G0 HG FI1 G1 M1 m1 b k0 k1 n0 n1 EV;go_wp2_with fail;go_roundg (n-(i+1))
   case rel=>exact HN1.out
   case measure=>exact HMM.out
  ·have hlt':¬(i:Int)<(n:Int):=by omega
   obtain rfl:i=n:=by omega
   obtain ⟨ps,p1,pl,p2⟩:=FI.out.doneN;rw [←HMP.out] at p2;have FIN:Hid (zdI w zs k (.returned (.slice (some ⟨w.heap.size,0,none⟩) i i)) wr):=⟨_,_,ps,rfl,Nat.le_refl _,pl,p1,p2,G.out⟩
   clear FI G HG p1 p2 pl;go_wp2;go_ret;exact FIN.out
open Go.RowKit Go.Shelf
attribute [local go_sem] Oper.semAt_some
theorem zTF {w:World} {p:Addr} {v:Value} (h:w.cell? p=some v):∃o:Obj,w.heap[p.block]?=some o∧o.isCells=true:=by
 cases ho:w.heap[p.block]? with
 | none=>simp [World.cell?,ho] at h
 | some o=>cases o <;> first | exact ⟨_,rfl,rfl⟩ | (simp [World.cell?,ho] at h)
def KpL (S:Nat→Prop) (B:Nat) (X Y:World):Prop:=X.heap.size≤Y.heap.size∧(∀(b:Nat) (o:Obj),b<B→¬S b→X.heap[b]?=some o→o.isCells=true→Y.heap[b]?=some o)
theorem KpL.trans {S:Nat→Prop} {B:Nat} {X Y Z:World} (h:KpL S B X Y) (h':KpL S B Y Z):KpL S B X Z:=⟨Nat.le_trans h.1 h'.1,fun b o h1 h2 e q=>h'.2 b o h1 h2 (h.2 b o h1 h2 e q) q⟩
theorem KpL.refl (S:Nat→Prop) (B:Nat) (X:World):KpL S B X X:=⟨Nat.le_refl _,fun _ _ _ _ h _=>h⟩
theorem KpL.of {S:Nat→Prop} {B:Nat} {X Y:World} (h:Below X.heap.size X Y):KpL S B X Y:=⟨h.size,fun b o _ _ e _=>(h.block b (Array.getElem?_eq_some_iff.1 e).1).trans e⟩
theorem KpL.cell {S:Nat→Prop} {B:Nat} {X Y:World} (h:KpL S B X Y) {p:Addr} {v:Value} (hp:X.cell? p=some v) (h1:p.block<B) (h2:¬S p.block):Y.cell? p=some v:=by
 obtain ⟨o,q1,q2⟩:=zTF hp;exact (World.cell?_of_block ((h.2 _ o h1 h2 q1 q2).trans q1.symm)).trans hp
theorem KpL.wk {S:Nat→Prop} {B:Nat} {X Y:World} (h:KpL S B X Y) (hB:X.heap.size≤B) (hn:∀b off x,S b→X.cell? ⟨b,off,none⟩≠some (.int .u64 x)):Wk X Y:=by
 refine ⟨h.1,fun g off x e=>h.cell e ?_ ?_⟩
 ·obtain ⟨o,q1,q2⟩:=zTF e
  exact Nat.lt_of_lt_of_le (Array.getElem?_eq_some_iff.1 q1).1 hB
 ·exact fun q=>hn _ _ _ q e
theorem KpL.put {S:Nat→Prop} {B:Nat} {X:World} {l:Nat} {o o':Obj} (hl:X.heap[l]?=some o) (ho:o.isCells=false):KpL S B X (X.putObj l o') :=
 ⟨by simp [World.putObj],fun b o1 _ _ e q=>by
  have hne:b≠l:=fun r=>by subst r;rw [hl,Option.some.injEq] at e;subst e;rw [ho] at q;cases q
  exact (World.putObj_heap_other (by omega)).trans e⟩
def AtL (k:Nat) (m:List (List Int)) (s:Nat×List Nat) (x:Nat×Nat) (X:World):Prop:=x.1=s.2.length∧s.2.length<m.length∧s.1≤x.2∧s.1≤X.heap.size∧(∀g∈s.2,g≠x.2)∧∃ps,Arr X x.2 ps∧Zms X ps (zEC m s.2.length) k
abbrev encL (c:Nat) (x:Nat×Nat):Array Value:=#[.int .i64 (x.1:Int),.slice (some ⟨x.2,0,none⟩) c c]
theorem Prs.kept11 {B:Nat} {w X:World} {v:Value} {ps:List (Value×Value)} (h:Prs B w v ps) (hs:w.heap.size≤X.heap.size) (hk:∀(p:Addr) (u:Value),B≤p.block→p.block<w.heap.size→w.cell? p=some u→X.cell? p=some u):Prs B X v ps:=by
 obtain ⟨a,c,h1,h2,h3,hx,h4⟩:=h;refine ⟨a,c,h1,h2,h3,hx,?_⟩;rcases h4 with h4 | ⟨b,off,h5,h5',h6,h7⟩
 ·exact .inl h4
 ·exact .inr ⟨b,off,h5,h5',Nat.lt_of_lt_of_le h6 hs,fun j p hp=>⟨hk _ _ h5' h6 (h7 j p hp).1,hk _ _ h5' h6 (h7 j p hp).2⟩⟩
theorem rowAt_rowsL {r c i:Nat} {zs:List Int} (hi:i<r):zEC (rowsL r c zs) i=(zs.drop (i*c)).take c:=by simp [zEC,rowsL,hi]
theorem Zis.row {w:World} {ps:List (Value×Value)} {zs:List Int} {k i c:Nat} (h:Zis w ps zs k):Zis w ((ps.drop i).take c) ((zs.drop i).take c) k:=by
 refine ⟨by simp [h.1],fun j p z hp hz=>?_⟩;rw [List.getElem?_take] at hp hz
 by_cases q:j<c
 ·rw [if_pos q,List.getElem?_drop] at hp hz
  exact h.2 _ p z hp hz
 ·rw [if_neg q] at hp;cases hp
theorem lines1_in {S:Nat→Prop} {l n Bw Bs ga r c k cap:Nat} {ps:List (Value×Value)} {zs:List Int} {W:World} (hn:1≤n) (J:Nat×List Nat→World→Prop)
  (hc:Cel W Bs 24 (matc r c (.slice (some ⟨ga,0,none⟩) (r*c) cap))) (hA:Prs (Bw+1) W (.slice (some ⟨ga,0,none⟩) (r*c) cap) ps) (hp:ps.length=r*c) (hz:Zis W ps zs k) (hr:r≤64) (hc4:c≤64)
  (hJb:∀s A B,J s A→Below A.heap.size A B→J s B) (h0:∀B,W.heap.size≤B→J (B,[]) W) (hlt:∀s A,J s A→∀g∈s.2,g<A.heap.size) (hBw:Bw<W.heap.size) (hBn:∀b off x,S b→W.cell? ⟨b,off,none⟩≠some (.int .u64 x)) (hSB:∀b,S b→b≤Bw)
  (hY:∀s x X,J s X→AtL k (rowsL r c zs) s x X→(∃X0,J s X0∧X0.heap.size≤x.2∧Below X0.heap.size X0 X)→YieldAt Fence.wide (n-1) Tryz.prog l (encL c x) X fun e Y=>e=.returned (.bool true)∧J (s.1,s.2 ++ [x.2]) Y∧KpL S s.1 X Y) :
  CallsIn Fence.wide n Tryz.prog 62 #[.func (.yield l) #[] #[],.pointer (some ⟨Bs,0,none⟩)] W fun e Y=>(∃v,e=.returned v)∧∃s,s.2.length=r∧J s Y:=by
 have x0:=hc.at (i:=0) rfl;have x1:=hc.at (i:=1) rfl;have x2:=hc.at (i:=2) rfl;have HRO:=hid (zCG (w0:=W) (w:=W) hA hp hr hc4);have HA:=hid hA;have HZ:=hid hz;have HJ:=hid hJb;have H0:=hid h0;have HL:=hid hlt;have HY:=hid hY;clear hA hz hJb h0 hlt hY hc;refine callsIn_of_wp Tryz.func62 rfl trivial ?_ rfl;simp only [Tryz.ntmps62,List.size_toArray,List.length_cons,List.length_nil,Nat.reduceAdd,Nat.reduceSub,Array.replicate_succ,Array.replicate_zero,List.push_toArray,List.append_toArray,List.nil_append,List.cons_append];have HBn:=hid hBn;have HSB:=hid hSB;clear hBn hSB;gi_wp2_with fail;have hBn:=HBn.out;clear HBn;refine ⟨trivial,(callsIn_wide.2 HRO.out).mono ?_⟩;rintro e W2 ⟨g,rfl,hg1,hg2,hrows,b⟩;have HR:=hid hrows;have HB:=hid b;have HBN:Hid (∀b off x,S b→W2.cell? ⟨b,off,none⟩≠some (.int .u64 x)):=fun b off x hs e=>hBn b off x hs ((HB.out.cell (p:=⟨b,off,none⟩) (Nat.lt_of_le_of_lt (HSB.out b hs) hBw)).symm.trans e)
 have H2:=hid (HJ.out _ _ _ (H0.out W2.heap.size b.size) b);clear hrows b HRO x0 x1 x2 hBn;gi_wp2_with fail
 gi_loopw [8] (fun i wr=>∃(t:Nat) (gs:List Nat),t≤r∧i=.int .i64 (t:Int)∧gs.length=t∧J (W2.heap.size,gs) wr∧KpL S W2.heap.size W2 wr)
  (fun i _=>((r:Int)-(intOf i)).toNat)
 case atStart=>exact ⟨0,[],Nat.zero_le _,rfl,rfl,H2.out,KpL.refl _ _ _⟩
 case round =>
  obtain ⟨t,gs,htr,rfl,hgs,hj,hk⟩:=hrel;have HG:=hid hgs;have JJ:=hid hj;have KK:=hid hk;clear hgs hj hk H2
  by_cases hlt:t<r
  ·have hlt':(t:Int)<(r:Int):=by omega
   obtain ⟨ai,ci,e0,p0⟩:=HR.out t hlt;have k0:wr.cell? ⟨g,t,none⟩=some (.slice ai c ci):=KK.out.cell e0 hg2 (fun q=>by have:=HSB.out _ q;dsimp only at this;omega);have p1:Prs (Bw+1) wr (.slice ai c ci) ((ps.drop (t*c)).take c):=by
    refine p0.kept11 (Nat.le_trans HB.out.size KK.out.1) (fun p u h1 h2 e=>?_);exact KK.out.cell ((HB.out.cell h2).trans e) (Nat.lt_of_lt_of_le h2 HB.out.size) (fun q=>by have:=HSB.out _ q;omega)
   have z1:Zis wr ((ps.drop (t*c)).take c) ((zs.drop (t*c)).take c) k:=((HZ.out.row).wk (Wk.of HB.out)).wk (KK.out.wk (Nat.le_refl _) HBN.out);have HEL:=hid (eachLeastM_any p1 z1);have HP:=hid p1;have HZL:=hid z1.1;have hw:=zbA (i:=t) (by omega);clear p0 p1 z1 e0;gi_wp2_with fail;refine ⟨trivial,(callsIn_wide.2 HEL.out).mono ?_⟩;rintro e w3 ⟨g3,n3,ps3,rfl,h1,h2,h3,h4,b⟩;have hn3:n3=c:=by
    rw [←h2,h4.1,←HZL.out];obtain ⟨a',c',q1,_⟩:=HP.out;simp only [Value.slice.injEq] at q1;exact q1.2.1.symm
   subst hn3;have hy:=HY.out (W2.heap.size,gs) (t,g3) w3 (HJ.out _ _ _ JJ.out b) ⟨HG.out.symm,by rw [HG.out,zLB];exact hlt,Nat.le_trans KK.out.1 h1,Nat.le_trans KK.out.1 b.size,fun q hq e=>by
     have:=HL.out _ _ JJ.out q hq;omega,ps3,h3,by rw [HG.out,rowAt_rowsL hlt];exact h4⟩ ⟨wr,JJ.out,h1,b⟩
   obtain ⟨fn,tmps,assign,body,hy,hR⟩:=hy;dsimp only [encL] at hy;have KK3:=hid (KK.out.trans (KpL.of (S:=S) b));clear h1 h2 h3 h4 b HEL HP HZL JJ KK k0;gi_wp2;refine hR.mono ?_;rintro e W4 ⟨rfl,hj4,hk4⟩;gi_wp2;go_roundw
   case rel=>exact ⟨t+1,gs ++ [g3],by omega,rfl,by rw [List.length_append,HG.out];rfl,hj4,KK3.out.trans hk4⟩
   case measure=>simp [intOf];omega
  ·obtain rfl:t=r:=by omega
   have hlt':¬(t:Int)<(t:Int):=by omega
   gi_wp2;go_end0;exact ⟨⟨_,rfl⟩,W2.heap.size,gs,HG.out,JJ.out⟩
def zsJ (w:World) (r c:Nat) (zs:List Int) (k:Nat) (e:Ending) (w':World):Prop:=∃Bs ga ps,e=.returned (.func (.func 62) #[] #[.pointer (some ⟨Bs,0,none⟩)])∧Cel w' Bs 24 (matc r c (.slice (some ⟨ga,0,none⟩) (r*c) (r*c)))∧w.heap.size≤ga∧Arr w' ga ps∧ps.length=r*c∧Zcs w' ps zs k∧Below w.heap.size w w'
theorem lines_yes {w:World} {v:Value} {r c:Nat} {zs:List Int} {k:Nat} (h:Mx w v r c zs k):Calls Tryz.prog 37 #[v] w (zsJ w r c zs k):=by
 have M0:=hid h;obtain ⟨aa,ca,rfl,hr,hc⟩:=h.form;have HZL:Hid (zs.length=r*c):=by obtain ⟨_,_,_,_,_,h,_⟩:=h;exact h
 obtain ⟨la,hla⟩:∃la,r*c=la:=⟨_,rfl⟩
 rw [hla] at M0 HZL ⊢;obtain ⟨W0,hW⟩:∃W0,w.alloc (matO r c (.slice aa la ca))=W0:=⟨_,rfl⟩
 obtain ⟨b0,sz0⟩:=alo1 w (matO r c (.slice aa la ca));rw [hW] at b0 sz0;have P1:Hid (Cel W0 w.heap.size 24 (matc r c (.slice aa la ca))):=by unfold Hid;rw [←hW];exact Cel.new w _ _
 have HLE:=hid (leastA_yes (M0.out.now b0));have x0:=P1.out.at (i:=0) rfl;have x1:=P1.out.at (i:=1) rfl;have x2:=P1.out.at (i:=2) rfl;rw [←hW] at x0 x1 x2;have G0:=hid b0;have EW:=hid hW;have EL:=hid hla;clear h hla b0 sz0 hW P1 M0;go_enter Tryz.func37,Tryz.ntmps37;go_wp2_with fail;rw [EW.out];refine HLE.out.mono ?_;rintro e w1 ⟨g,n,ps,rfl,h1,h2,h3,h4,b⟩;obtain rfl:n=la:=by rw [←h2,h4.1,HZL.out]
 have FIN:Hid (zsJ w r c zs k (.returned (.func (.func 62) #[] #[.pointer (some ⟨w1.heap.size,0,none⟩)])) (w1.alloc (matO r c (.slice (some ⟨g,0,none⟩) n n)))):=by
  have b1:=(alo1 w1 (matO r c (.slice (some ⟨g,0,none⟩) n n))).1;refine ⟨w1.heap.size,g,ps,rfl,?_,Nat.le_trans G0.out.size h1,h3.step b1,by rw [h2,EL.out],h4.now b1,below_step (below_step G0.out b) b1⟩;rw [EL.out];exact Cel.new w1 _ _
 clear h1 h2 h3 h4 b HLE x0 x1 x2 EW G0;go_wp2;go_ret;exact FIN.out
end Go.Proofs.YtjjpodnjljfheaaGreat
