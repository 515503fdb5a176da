/-
 QChkN9ToLeastA9: ChkN9, LeastA9, joined.
-/
import Derived.Test.YtjnokjgbeploaaaGreatQTurn9
import Derived.Test.YtjnokjgbeploaaaGreatQUnit9ToBw8
import Derived.Test.YtjnokjgbeploaaaGreatQTailXToWk9

set_option maxRecDepth 100000
set_option maxHeartbeats 6400000
set_option linter.unusedVariables false
set_option linter.unusedSimpArgs false
namespace Go.Proofs.YtjnokjgbeploaaaGreat
open Go.RowKit
theorem isShape_raw {w:World} {r c:Int}:Calls Tryz.prog 35 #[.int .i64 r,.int .i64 c] w fun e w'=>e=.returned (.bool (decide (0≤r∧0≤c∧r≤64∧c≤64)))∧w'=w:=by
 by_cases h1:0≤min r c
 ·by_cases h2:max r c≤64
  ·have e:decide (0≤r∧0≤c∧r≤64∧c≤64)=true:=by rw [decide_eq_true_eq];omega
   rw [e];clear e;go_enter Tryz.func35,Tryz.ntmps35;go_wp2;go_ret;exact ⟨rfl,rfl⟩
  ·have e:decide (0≤r∧0≤c∧r≤64∧c≤64)=false:=by rw [decide_eq_false_iff_not];omega
   rw [e];clear e;go_enter Tryz.func35,Tryz.ntmps35;go_wp2;go_ret;exact ⟨rfl,rfl⟩
 ·have e:decide (0≤r∧0≤c∧r≤64∧c≤64)=false:=by rw [decide_eq_false_iff_not];omega
  rw [e];clear e;go_enter Tryz.func35,Tryz.ntmps35;go_wp2;go_ret;exact ⟨rfl,rfl⟩
theorem check_no {w:World} {r c:Int} {a:Option Addr} {l cap:Nat} (h:¬Snd r c l):Calls Tryz.prog 19 #[.agg #[.int .i64 r,.int .i64 c,.slice a l cap]] w fun e w'=>e=.returned (.int .i64 1)∧Below w.heap.size w w':=by
 obtain ⟨W0,hW⟩:∃W0,w.alloc (.cells #[.int .i64 r,.int .i64 c,.slice a l cap] 24)=W0:=⟨_,rfl⟩
 obtain ⟨b0,sz0⟩:=alo1 w (.cells #[.int .i64 r,.int .i64 c,.slice a l cap] 24);rw [hW] at b0 sz0;have P1:Hid (Cel W0 w.heap.size 24 [.int .i64 r,.int .i64 c,.slice a l cap]):=by unfold Hid;rw [←hW];exact Cel.new w _ _
 have x0:=P1.out.at (i:=0) rfl;have x1:=P1.out.at (i:=1) rfl;have x2:=P1.out.at (i:=2) rfl;rw [←hW] at x0 x1 x2;have HS:=hid (isShape_raw (w:=W0) (r:=r) (c:=c));have G0:=hid b0;have EW:=hid hW;clear b0 sz0 hW P1
 by_cases hs:0≤r∧0≤c∧r≤64∧c≤64
 ·have e:decide (0≤r∧0≤c∧r≤64∧c≤64)=true:=decide_eq_true hs
  rw [e] at HS;have hm:0≤r*c∧r*c≤64*64:=⟨Int.mul_nonneg hs.1 hs.2.1,Int.mul_le_mul hs.2.2.1 hs.2.2.2 hs.2.1 (by omega)⟩
  have hw:IntKind.i64.wrap (r*c)=r*c:=by rw [zaA] <;> omega
  obtain ⟨q,hq⟩:∃q,r*c=q:=⟨_,rfl⟩
  have hne:¬((l:Int)=q):=fun h2=>h ⟨hs.1,hs.2.2.1,hs.2.1,hs.2.2.2,h2.trans hq.symm⟩
  replace hw:IntKind.i64.wrap (r*c)=q:=hw.trans hq;have hw2:=hw;rw [IntKind.wrap_i64] at hw2;have q0:((l:Int) != q)=true:=by simpa using hne
  clear h hs e hm hq hne;go_enter Tryz.func19,Tryz.ntmps19;go_wp2_with fail;rw [EW.out];refine HS.out.mono ?_;rintro e w1 ⟨rfl,rfl⟩;rw [EW.out] at x0 x1 x2;go_wp2;go_ret;exact ⟨rfl,G0.out⟩
 ·have e:decide (0≤r∧0≤c∧r≤64∧c≤64)=false:=decide_eq_false hs
  rw [e] at HS;clear h hs e;go_enter Tryz.func19,Tryz.ntmps19;go_wp2_with fail;rw [EW.out];refine HS.out.mono ?_;rintro e w1 ⟨rfl,rfl⟩;go_wp2;go_ret;exact ⟨rfl,G0.out⟩
theorem Fil.doneA {w:World} {g n:Nat} {F:Nat→Int} {k:Nat} (h:Fil w g n n F k):∃ps,Arr w g ps∧ps.length=n∧Zcs w ps ((List.range n).map F) k:=by
 obtain ⟨ps,h1,rfl,h3⟩:=h;refine ⟨ps,h1,rfl,by simp,fun j p z hp hz=>?_⟩;have hj:j<ps.length:=(List.getElem?_eq_some_iff.1 hp).1;rw [List.getElem?_map,List.getElem?_range hj,Option.map_some,Option.some.injEq] at hz;subst hz;exact h3 j p hj hp
def zpF (w:World) (zs:List Int) (k:Nat) (e:Ending) (w':World):Prop:=∃g n ps,e=.returned (.slice (some ⟨g,0,none⟩) n n)∧w.heap.size≤g∧ps.length=n∧Arr w' g ps∧Zcs w' ps zs k∧Below w.heap.size w w'
def zeI (w:World) (r c:Nat) (zs:List Int) (k:Nat) (e:Ending) (w':World):Prop:=∃g n ps,e=.returned (matv r c (.slice (some ⟨g,0,none⟩) n n))∧w.heap.size≤g∧ps.length=n∧Arr w' g ps∧Zcs w' ps zs k∧Below w.heap.size w w'
def zvH (w:World) (r c:Nat) (zs:List Int) (k:Nat) (e:Ending) (w':World):Prop:=∃g n ps,e=.returned (.tuple #[matv r c (.slice (some ⟨g,0,none⟩) n n),.int .i64 0])∧w.heap.size≤g∧ps.length=n∧Arr w' g ps∧Zcs w' ps zs k∧Below w.heap.size w w'
theorem eachLeastA_any {w:World} {B k:Nat} {v:Value} {ps:List (Value×Value)} {zs:List Int} (hv:Prs B w v ps) (hz:Zis w ps zs k) :
  Calls Tryz.prog 36 #[v,zSC] w (zpF w zs k):=by
 have V0:=hid (zME hv hz);have HMP:Hid (zs=(List.range zs.length).map fun j=>zs.getD j 0):=by
  unfold Hid
  apply List.ext_getElem
  ·simp
  ·intro j h1 h2
   simp [h1]
 obtain ⟨a0,c0,rfl,hc0,hn0,hf0⟩:=V0.out.form9;obtain ⟨n,hn⟩:∃n,zs.length=n:=⟨_,rfl⟩
 rw [hn] at V0 hc0 hn0 HMP ⊢;have HN:=hid hn;have F0:=hid hf0;clear hv hz hf0 hn;go_enter Tryz.func36,Tryz.ntmps36;go_wp2_with (at_make;refine zUA _ rfl _ _ rfl _ _ n n rfl rfl rfl rfl (Nat.le_refl _) (by omega) ?_)
 intro w1 hrow hb1 hsz1;have H0:Hid (zKD w w.heap.size n (fun j=>zs.getD j 0) k n (.int .i64 0) w1):=⟨0,rfl,Nat.zero_le _,by omega,Fil.start hrow _ _,hb1⟩
 clear hrow hb1 hsz1;go_wp2_with fail
 go_loopg [13] n (fun gk s13 wx=>zKD w w.heap.size n (fun j=>zs.getD j 0) k gk s13 wx)
 case atStart=>exact H0.out
 case round =>
  clear H0;obtain ⟨i,rfl,hin,hg,hfil,hG⟩:=hrel;have FI:=hid hfil;have G:=hid hG;have HG:=hid hg;clear hfil hG hg
  by_cases hlt:i<n
  ·have hlt':(i:Int)<(n:Int):=by omega
   obtain ⟨b1,o1,rfl⟩:=F0.out (fun e=>by have:=HN.out;rw [e] at this;simp at this;omega);obtain ⟨nf,xf,adf,qf,k0,k1,zf⟩:=(V0.out.now G.out).at9 (i:=i) (by rw [HN.out];exact hlt);rw [zRC] at zf;obtain ⟨V1,hV⟩:∃V1,wr.alloc (duo (.bool nf) (.slice adf xf.length qf))=V1:=⟨_,rfl⟩
   obtain ⟨b,sz1⟩:=alo1 wr (duo (.bool nf) (.slice adf xf.length qf));rw [hV] at b sz1;have PN:Hid (Duo V1 wr.heap.size (.bool nf) (.slice adf xf.length qf)):=by unfold Hid;rw [←hV];exact Duo.new wr _ _
   have HS:=hid (zQC (zf.now b));have FI0:=hid (FI.out.step b);have G0:=hid (zBA G.out b);have n0:=PN.out.c0;have n1:=PN.out.c1;rw [←hV] at n0 n1;have EV:=hid hV;have hw:=zNA (i:=i) (by omega);clear zf b sz1 hV PN FI G;go_wp2_with fail;rw [EV.out];refine HS.out.mono ?_;rintro e w1 ⟨r,rfl,m1,b⟩;have FI1:=hid (FI0.out.step b);have G1:=hid (zBA G0.out b);have M1:=hid m1.zc;obtain ⟨nr,xr,ar,cr,rfl⟩:=m1.parts;obtain ⟨m0,am,lm,cm,e0,e1,e2,e3⟩:=FI1.out.cells hlt;have HN1:Hid (zKD w w.heap.size n (fun j=>zs.getD j 0) k (n-(i+1)) (.int .i64 ((i+1:Nat):Int)) ((w1.setCell ⟨w.heap.size,i*2,none⟩ (.bool nr)).setCell ⟨w.heap.size,i*2+1,none⟩ (.slice ar xr.length cr))) :=
    ⟨i+1,rfl,by omega,rfl,FI1.out.put hlt M1.out,bset (bset G1.out (Nat.le_refl _)) (Nat.le_refl _)⟩
   have HMM:Hid (n-(i+1)<gk):=by unfold Hid;rw [HG.out];omega
   clear HS FI0 G0 HG FI1 G1 M1 m1 b k0 k1 n0 n1 EV;go_wp2_with fail;go_roundg (n-(i+1))
   case rel=>exact HN1.out
   case measure=>exact HMM.out
  ·have hlt':¬(i:Int)<(n:Int):=by omega
   obtain rfl:i=n:=by omega
   obtain ⟨ps,p1,pl,p2⟩:=FI.out.doneA;rw [←HMP.out] at p2;have FIN:Hid (zpF w zs k (.returned (.slice (some ⟨w.heap.size,0,none⟩) i i)) wr):=⟨_,_,ps,rfl,Nat.le_refl _,pl,p1,p2,G.out⟩
   clear FI G HG p1 p2 pl;go_wp2;go_ret;exact FIN.out
theorem least9A_any {w:World} {v:Value} {r c:Nat} {zs:List Int} {k:Nat} (h:Mx w v r c zs k):Calls Tryz.prog 20 #[v] w (zeI w r c zs k):=by
 obtain ⟨at_,ps,rfl,p1,p2,p3,hr,hc⟩:=h;obtain ⟨W0,hW⟩:∃W0,(w.alloc (matO r c at_)).alloc mbox=W0:=⟨_,rfl⟩
 obtain ⟨b0,sz0⟩:=zjA w (matO r c at_) mbox;rw [hW] at b0 sz0;obtain ⟨pa,pr⟩:=zoA (o1:=matc r c at_) hW;have PR:=hid pr;have HS:Hid (∀w',Below W0.heap.size W0 w'→Calls Tryz.prog 36 #[at_,zSC] w' (zpF w' zs k)):=fun w' hb=>eachLeastA_any ((p1.now b0).now hb) ((p2.now b0).now hb)
 have HL:=hid p3;obtain ⟨aa,ca,rfl,-,-,-,-⟩:=p1.form;generalize ps.length=la at *;have k0:=pa.at (i:=0) rfl;have k1:=pa.at (i:=1) rfl;have k2:=pa.at (i:=2) rfl;have G:=hid b0;have EW:=hid hW;have SZ:=hid sz0;clear p1 p2 p3 b0 sz0 hW pa pr;go_enter Tryz.func20,Tryz.ntmps20;go_wp2_with fail;rw [EW.out];clear EW;have KB:Hid (∀w',Below W0.heap.size W0 w'→w'.cell? ⟨w.heap.size,0,none⟩=some (.int .i64 (r:Int))∧w'.cell? ⟨w.heap.size,1,none⟩=some (.int .i64 (c:Int))∧w'.cell? ⟨w.heap.size,2,none⟩=some (.slice aa la ca)):=fun w' h=>⟨cnow h k0,cnow h k1,cnow h k2⟩
 refine zDA (fun w'=>w'.cell? ⟨w.heap.size,0,none⟩=some (.int .i64 (r:Int))∧w'.cell? ⟨w.heap.size,1,none⟩=some (.int .i64 (c:Int))∧w'.cell? ⟨w.heap.size,2,none⟩=some (.slice aa la ca)) 8 (by kernel_rfl) ?_;obtain ⟨D1,hD⟩:∃D1,W0.drew=D1:=⟨_,rfl⟩
 have GB:Hid (Below W0.heap.size W0 D1):=by unfold Hid;rw [←hD];exact (Below.refl _ _).drew
 rw [hD];clear hD;have HD1:=hid GB.out.size;refine zAA (i:=0) (oi:=⟨some 3,.fieldAddr 24 (.tmp 1) 0,0, "mat.go:102",#[],none⟩) (v:=(.pointer (some ⟨w.heap.size,0,none⟩))) rfl (by kernel_rfl) (fun _ _ _ h=>h) (Or.inl ⟨by rfl,?_⟩) (KB.out _ GB.out) ?_
 ·intro w hSw;(try dsimp only at hSw);go_simp
 simp only [Act.put,sIb,sC0,sC1];refine zAA (i:=1) (oi:=⟨some 4,.load 3 (.tmp 3),3, "mat.go:102",#[⟨0,.data⟩],none⟩) (v:=(.int .i64 (r:Int))) rfl (by kernel_rfl) (fun _ _ _ h=>h) (Or.inl ⟨by rfl,?_⟩) (KB.out _ GB.out) ?_
 ·intro w hSw;(try dsimp only at hSw);go_simp
 simp only [Act.put,sIb,sC0,sC1];refine zAA (i:=2) (oi:=⟨some 5,.fieldAddr 24 (.tmp 1) 1,0, "mat.go:102",#[],none⟩) (v:=(.pointer (some ⟨w.heap.size,1,none⟩))) rfl (by kernel_rfl) (fun _ _ _ h=>h) (Or.inl ⟨by rfl,?_⟩) (KB.out _ GB.out) ?_
 ·intro w hSw;(try dsimp only at hSw);go_simp
 simp only [Act.put,sIb,sC0,sC1];refine zAA (i:=3) (oi:=⟨some 6,.load 3 (.tmp 5),3, "mat.go:102",#[⟨2,.data⟩],none⟩) (v:=(.int .i64 (c:Int))) rfl (by kernel_rfl) (fun _ _ _ h=>h) (Or.inl ⟨by rfl,?_⟩) (KB.out _ GB.out) ?_
 ·intro w hSw;(try dsimp only at hSw);go_simp
 simp only [Act.put,sIb,sC0,sC1];refine zAA (i:=4) (oi:=⟨some 7,.fieldAddr 24 (.tmp 1) 2,0, "mat.go:102",#[],none⟩) (v:=(.pointer (some ⟨w.heap.size,2,none⟩))) rfl (by kernel_rfl) (fun _ _ _ h=>h) (Or.inl ⟨by rfl,?_⟩) (KB.out _ GB.out) ?_
 ·intro w hSw;(try dsimp only at hSw);go_simp
 simp only [Act.put,sIb,sC0,sC1];refine zAA (i:=5) (oi:=⟨some 8,.load 22 (.tmp 7),22, "mat.go:102",#[⟨4,.data⟩],none⟩) (v:=(.slice aa la ca)) rfl (by kernel_rfl) (fun _ _ _ h=>h) (Or.inl ⟨by rfl,?_⟩) (KB.out _ GB.out) ?_
 ·intro w hSw;(try dsimp only at hSw);go_simp
 simp only [Act.put,sIb,sC0,sC1];refine zCA (i:=6) (o:=⟨some 9,.call { callee:=.value (.func 36),args:=#[.tmp 8,.func 37],argTypes:=#[22,66] },22, "mat.go:102",#[⟨5,.data⟩],none⟩) (by kernel_rfl) rfl (fun K hK=>?_);go_simp;go_at_call 36;refine (HS.out _ GB.out).mono ?_;rintro e w2 ⟨g,n,qs,rfl,hge,hpl,q1,q2,b⟩;have lz2:=(show Below _ _ _ from b).size;replace GB:=hid (zBA GB.out b);have PR9:=hid (PR.out.step GB.out);have G9:=hid (zBA G.out GB.out);have Q1:=hid q1;have Q2:=hid q2;have lz0:=GB.out.size;have HGE:Hid (W0.heap.size≤g):=by unfold Hid;have:=HD1.out;omega
 clear q1 q2;clear b;refine hK.out _ _ (fun _=>KB.out _ GB.out) ?_;clear hK;refine zAA (i:=7) (oi:=⟨some 10,.build 24 #[(0,.tmp 4),(1,.tmp 6),(2,.tmp 9)],24, "mat.go:102",#[⟨1,.data⟩,⟨3,.data⟩,⟨6,.data⟩],none⟩) (v:=(.agg #[.int .i64 (r:Int),.int .i64 (c:Int),.slice (some ⟨g,0,none⟩) n n])) rfl (by kernel_rfl) (fun _ _ _ h=>h) (Or.inl ⟨by rfl,?_⟩) (KB.out _ GB.out) ?_
 ·intro w hSw;(try dsimp only at hSw);go_simp
 simp only [Act.put,sIb,sC0,sC1];refine zCA (i:=8) (o:=⟨none,.store 24 (.tmp 2) (.tmp 10),0, "mat.go:102",#[⟨7,.data⟩,⟨6,.chain⟩,⟨0,.phase⟩,⟨1,.phase⟩,⟨2,.phase⟩,⟨3,.phase⟩,⟨4,.phase⟩,⟨5,.phase⟩,⟨6,.phase⟩,⟨7,.phase⟩],none⟩) (by kernel_rfl) rfl (fun K hK=>?_);have e0:=PR9.out.at (i:=0) rfl;have e1:=PR9.out.at (i:=1) rfl;have e2:=PR9.out.at (i:=2) rfl;have e3:=PR9.out.fz 0;have e4:=PR9.out.fz 1;have e5:=PR9.out.fz 2;go_simp;clear e0 e1 e2 e3 e4 e5;obtain ⟨V3,hW⟩:∃V3,(((w2.setCell ⟨w.heap.size+1,0,none⟩ (.int .i64 (r:Int))).setCell ⟨w.heap.size+1,1,none⟩ (.int .i64 (c:Int))).setCell ⟨w.heap.size+1,2,none⟩ (.slice (some ⟨g,0,none⟩) n n))=V3:=⟨_,rfl⟩
 have PF:Hid (Cel V3 (w.heap.size+1) 24 [(.int .i64 (r:Int)),(.int .i64 (c:Int)),(.slice (some ⟨g,0,none⟩) n n)]):=by unfold Hid;rw [←hW];exact PR9.out.put3 _ _ _
 have FIN:Hid (zeI w r c zs k (.returned (.agg #[.int .i64 (r:Int),.int .i64 (c:Int),.slice (some ⟨g,0,none⟩) n n])) V3):=by
  unfold Hid;rw [←hW];exact ⟨g,n,qs,rfl,by have:=SZ.out;have:=HGE.out;omega,hpl,Q1.out.put3 (by have:=SZ.out;have:=HGE.out;omega) _ _ _,Q2.out.wk (PR9.out.wk3 _ _ _),zSA G9.out (by omega) _ _ _⟩
 rw [hW];clear hW;refine hK.out _ _ (fun h=>absurd h (by decide)) ?_;clear hK
 try simp only [Act.put]
 refine zFA (by kernel_rfl) ?_ _;clear GB KB;go_wp2;exact bodyPost_ret (zhF Tryz.results20 PF.out _ (by rfl)) rfl FIN.out
theorem leastA_yes {w:World} {v:Value} {r c:Nat} {zs:List Int} {k:Nat} (h:Mx w v r c zs k):Calls Tryz.prog 46 #[v] w (zvH w r c zs k):=by
 have M0:=hid h;obtain ⟨aa,ca,rfl,hr,hc⟩:=h.form;obtain ⟨la,hla⟩:∃la,r*c=la:=⟨_,rfl⟩
 rw [hla] at M0 ⊢;obtain ⟨W0,hW⟩:∃W0,(w.alloc (matO r c (.slice aa la ca))).alloc mbox=W0:=⟨_,rfl⟩
 obtain ⟨b0,sz0⟩:=zjA w (matO r c (.slice aa la ca)) mbox;rw [hW] at b0 sz0;obtain ⟨pa,pr⟩:=zoA (o1:=matc r c (.slice aa la ca)) hW;have HCK:=hid (zIB (M0.out.now b0));have x0:=pa.at (i:=0) rfl;have x1:=pa.at (i:=1) rfl;have x2:=pa.at (i:=2) rfl;rw [←hW] at x0 x1 x2;have PA:=hid pa;have PR:=hid pr;have G0:=hid b0;have EW:=hid hW;replace M0:=hid (M0.out.now b0);have HRC:=hid hla;clear h hla b0 sz0 hW pa pr;go_enter Tryz.func46,Tryz.ntmps46;go_wp2_with fail;rw [EW.out];refine HCK.out.mono ?_;rintro e w1 ⟨rfl,b⟩;have HLE:=hid (least9A_any (M0.out.now b));have PR1:=hid (PR.out.step b);have G1:=hid (zBA G0.out b);have z0:=(PA.out.step b).at (i:=0) rfl;have z1:=(PA.out.step b).at (i:=1) rfl;have z2:=(PA.out.step b).at (i:=2) rfl;clear HCK b x0 x1 x2 EW PA PR G0 M0;go_wp2_with fail;refine HLE.out.mono ?_;rintro e w3 ⟨g,n,qs,rfl,hge,hpl,q1,q2,b⟩;have PR3:=hid (PR1.out.step b);have G3:=hid (zBA G1.out b);have HWW:Hid (w.heap.size+1<g):=by unfold Hid;have h1:=PR1.out.blk;omega
 have FIN:Hid (zvH w r c zs k (.returned (.tuple #[.agg #[.int .i64 (r:Int),.int .i64 (c:Int),.slice (some ⟨g,0,none⟩) n n],.int .i64 0])) (put3 w3 (w.heap.size+1) (.int .i64 (r:Int)) (.int .i64 (c:Int)) (.slice (some ⟨g,0,none⟩) n n))) :=
  ⟨g,n,qs,rfl,by have:=G1.out.size;omega,hpl,q1.put3 (by have:=HWW.out;omega) _ _ _,q2.wk (PR3.out.wk3 _ _ _),zSA G3.out (by omega) _ _ _⟩
 have PF:=hid (PR3.out.put3 (.int .i64 (r:Int)) (.int .i64 (c:Int)) (.slice (some ⟨g,0,none⟩) n n));have r0:=PR3.out.at (i:=0) rfl;have r1:=PR3.out.at (i:=1) rfl;have r2:=PR3.out.at (i:=2) rfl;have f0:=PR3.out.fz 0;have f1:=PR3.out.fz 1;have f2:=PR3.out.fz 2;clear HLE b q1 q2 PR1 G1 z0 z1 z2;go_wp2;exact bodyPost_ret (zIC Tryz.results46 PF.out _ (by rfl) (by rfl)) rfl FIN.out
end Go.Proofs.YtjnokjgbeploaaaGreat
