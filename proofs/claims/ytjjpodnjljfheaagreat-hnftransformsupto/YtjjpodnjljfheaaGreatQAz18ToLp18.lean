/-
 QAz18ToLp18: Az18, Ar18, Ix18, Pv18, R5Cmp, Lp18, joined.
-/
import Derived.Test.YtjjpodnjljfheaaGreatQLx18ToMk12
import Derived.Test.YtjjpodnjljfheaaGreatQIp18ToOr18
import Derived.Test.YtjjpodnjljfheaaGreatQOf11ToTo18
import Derived.Test.YtjjpodnjljfheaaGreatQZOnesToZCmp
import Derived.Test.YtjjpodnjljfheaaGreatQTl19ToHs18
import Derived.Test.YtjjpodnjljfheaaGreatQR5OnesToR5Add
import Derived.Test.YtjjpodnjljfheaaGreatQLi18ToFo18
import Derived.Test.YtjjpodnjljfheaaGreatQRm12

set_option maxRecDepth 100000
set_option maxHeartbeats 6400000
set_option linter.unusedVariables false
set_option linter.unusedSimpArgs false
namespace Go.Proofs.YtjjpodnjljfheaaGreat
open Go.RowKit
theorem zcB (w:World):Mc w (.agg #[.int .i64 0,.int .i64 0,.slice none 0 0]) 0 0 [] 1 :=
 ⟨.slice none 0 0,[],rfl,Prs.nil 0 w,⟨rfl,fun j p z hp=>by simp at hp⟩,rfl,Nat.zero_le _,Nat.zero_le _⟩
theorem zbE (w:World):Calls Tryz.prog 26 #[.slice none 0 0,.slice none 0 0] w fun e w'=>e=.returned (.bool true)∧Below w.heap.size w w' :=
 zXC (zs:=[]) (k:=1) (l:=1) (Prs.nil 0 w) ⟨rfl,fun j p z hp=>by simp at hp⟩ (Prs.nil 0 w) ⟨rfl,fun j p z hp=>by simp at hp⟩
abbrev zwD:List Value:=[.int .i64 0,.int .i64 0,.slice none 0 0,.int .i64 0,.int .i64 0,.slice none 0 0,.int .i64 0,.int .i64 0,.slice none 0 0,.int .i64 0,.int .i64 0,.slice none 0 0,.slice none 0 0,.slice none 0 0,.slice none 0 0,.bool false,.int .i64 0]
abbrev zSI:Value:=.agg #[.int .i64 0,.int .i64 0,.slice none 0 0,.int .i64 0,.int .i64 0,.slice none 0 0,.int .i64 0,.int .i64 0,.slice none 0 0,.int .i64 0,.int .i64 0,.slice none 0 0,.slice none 0 0,.slice none 0 0,.slice none 0 0,.bool false,.int .i64 0]
def znJ (w:World) (s:Value) (wx:World):Prop:=s=.int .i64 0∧Cel wx w.heap.size 35 zwD∧Cel wx (w.heap.size+1) 35 zwD∧Below w.heap.size w wx
theorem same_zero18 (w:World):Calls Tryz.prog 7 #[zSI,zSI] w fun e w'=>e=.returned (.bool true)∧Below w.heap.size w w':=by
 obtain ⟨W0,hW⟩:∃W0,(w.alloc (.cells #[.int .i64 0,.int .i64 0,.slice none 0 0,.int .i64 0,.int .i64 0,.slice none 0 0,.int .i64 0,.int .i64 0,.slice none 0 0,.int .i64 0,.int .i64 0,.slice none 0 0,.slice none 0 0,.slice none 0 0,.slice none 0 0,.bool false,.int .i64 0] 35)).alloc (.cells #[.int .i64 0,.int .i64 0,.slice none 0 0,.int .i64 0,.int .i64 0,.slice none 0 0,.int .i64 0,.int .i64 0,.slice none 0 0,.int .i64 0,.int .i64 0,.slice none 0 0,.slice none 0 0,.slice none 0 0,.slice none 0 0,.bool false,.int .i64 0] 35)=W0:=⟨_,rfl⟩
 obtain ⟨b0,sz0⟩:=zXA w (.cells #[.int .i64 0,.int .i64 0,.slice none 0 0,.int .i64 0,.int .i64 0,.slice none 0 0,.int .i64 0,.int .i64 0,.slice none 0 0,.int .i64 0,.int .i64 0,.slice none 0 0,.slice none 0 0,.slice none 0 0,.slice none 0 0,.bool false,.int .i64 0] 35) (.cells #[.int .i64 0,.int .i64 0,.slice none 0 0,.int .i64 0,.int .i64 0,.slice none 0 0,.int .i64 0,.int .i64 0,.slice none 0 0,.int .i64 0,.int .i64 0,.slice none 0 0,.slice none 0 0,.slice none 0 0,.slice none 0 0,.bool false,.int .i64 0] 35);rw [hW] at b0;have qa:Cel W0 w.heap.size 35 zwD:=by
  rw [←hW];exact (Cel.new w 35 zwD).step ((Below.refl _ _).alloc (Nat.le_refl _) _)
 have qb:Cel W0 (w.heap.size+1) 35 zwD:=by
  rw [←hW];have:=Cel.new (w.alloc (.cells #[.int .i64 0,.int .i64 0,.slice none 0 0,.int .i64 0,.int .i64 0,.slice none 0 0,.int .i64 0,.int .i64 0,.slice none 0 0,.int .i64 0,.int .i64 0,.slice none 0 0,.slice none 0 0,.slice none 0 0,.slice none 0 0,.bool false,.int .i64 0] 35)) 35 zwD
  simpa using this
 have QA:=hid qa;have QB:=hid qb;have G:=hid b0;have EW:=hid hW;clear b0 sz0 hW qa qb;go_enter Tryz.func7,Tryz.ntmps7;go_upto_region 1 with fail
 rw [EW.out];clear EW;have x14:=QA.out.at (i:=14) rfl;have y14:=QB.out.at (i:=14) rfl;have x15:=QA.out.at (i:=15) rfl;have y15:=QB.out.at (i:=15) rfl;have x16:=QA.out.at (i:=16) rfl;have y16:=QB.out.at (i:=16) rfl;have J0:Hid (znJ w (.int .i64 0) W0):=⟨rfl,QA.out,QB.out,G.out⟩
 clear QA QB G;go_wp2_with fail;clear x14 y14 x15 y15 x16 y16
 go_loopg [5] 0 (fun gk s5 wx=>znJ w s5 wx)
 case atStart=>exact J0.out
 case round =>
  clear J0;obtain ⟨rfl,qa,qb,hb⟩:=hrel;have QA:=hid qa;have QB:=hid qb;have G:=hid hb;clear qa qb hb;have x14:=QA.out.at (i:=14) rfl;have y14:=QB.out.at (i:=14) rfl;have x0:=QA.out.at (i:=0) rfl;have y0:=QB.out.at (i:=0) rfl;have x1:=QA.out.at (i:=1) rfl;have y1:=QB.out.at (i:=1) rfl;have x2:=QA.out.at (i:=2) rfl;have y2:=QB.out.at (i:=2) rfl;go_wp2_with fail;refine (zNA (zcB _) (zcB _) rfl).mono ?_;rintro e w1 ⟨rfl,b⟩;replace QA:=hid (QA.out.step b);replace QB:=hid (QB.out.step b);replace G:=hid (below_step G.out b);clear b x14 y14 x0 y0 x1 y1 x2 y2;have x3:=QA.out.at (i:=3) rfl;have y3:=QB.out.at (i:=3) rfl;have x4:=QA.out.at (i:=4) rfl;have y4:=QB.out.at (i:=4) rfl;have x5:=QA.out.at (i:=5) rfl;have y5:=QB.out.at (i:=5) rfl;go_wp2_with fail;refine (zNA (zcB _) (zcB _) rfl).mono ?_;rintro e w2 ⟨rfl,b⟩;replace QA:=hid (QA.out.step b);replace QB:=hid (QB.out.step b);replace G:=hid (below_step G.out b);clear b x3 y3 x4 y4 x5 y5;have x6:=QA.out.at (i:=6) rfl;have y6:=QB.out.at (i:=6) rfl;have x7:=QA.out.at (i:=7) rfl;have y7:=QB.out.at (i:=7) rfl;have x8:=QA.out.at (i:=8) rfl;have y8:=QB.out.at (i:=8) rfl;go_wp2_with fail;refine (zNA (zcB _) (zcB _) rfl).mono ?_;rintro e w3 ⟨rfl,b⟩;replace QA:=hid (QA.out.step b);replace QB:=hid (QB.out.step b);replace G:=hid (below_step G.out b);clear b x6 y6 x7 y7 x8 y8;have x9:=QA.out.at (i:=9) rfl;have y9:=QB.out.at (i:=9) rfl;have x10:=QA.out.at (i:=10) rfl;have y10:=QB.out.at (i:=10) rfl;have x11:=QA.out.at (i:=11) rfl;have y11:=QB.out.at (i:=11) rfl;go_wp2_with fail;refine (zNA (zcB _) (zcB _) rfl).mono ?_;rintro e w4 ⟨rfl,b⟩;replace QA:=hid (QA.out.step b);replace QB:=hid (QB.out.step b);replace G:=hid (below_step G.out b);clear b x9 y9 x10 y10 x11 y11;have x12:=QA.out.at (i:=12) rfl;have y12:=QB.out.at (i:=12) rfl;go_wp2_with fail;refine (zbE _).mono ?_;rintro e w5 ⟨rfl,b⟩;replace QA:=hid (QA.out.step b);replace QB:=hid (QB.out.step b);replace G:=hid (below_step G.out b);clear b x12 y12;have x13:=QA.out.at (i:=13) rfl;have y13:=QB.out.at (i:=13) rfl;go_wp2_with fail;refine (zbE _).mono ?_;rintro e w6 ⟨rfl,b⟩;replace G:=hid (below_step G.out b);clear b x13 y13 QA QB;go_wp2;go_ret;exact ⟨rfl,G.out⟩
theorem rleast18 {w:World} {v:Value} {m n k:Nat} {zs:List Int} (h:Mx w v m n zs k) (hk:k≤1099511627776):Calls Tryz.prog 10 #[v] w (zyA w m n zs k):=by
 have CK:=hid (ziG h);obtain ⟨aa,ca,rfl,hm,hn⟩:=h.form;have hzl:zs.length=m*n:=by obtain ⟨_,_,_,_,_,h,_⟩:=h;exact h
 have hMK:Hid (∀w',Below w.heap.size w w'→Calls Tryz.prog 32 #[.int .i64 (m:Int),.int .i64 (n:Int),.slice aa (m*n) ca] w' (zyA w' m n zs k)):=fun w' hb=>by
  obtain ⟨a1,ps,e,h1,h2,h3,h4,h5⟩:=h;simp only [matv,Value.agg.injEq,Array.mk.injEq,List.cons.injEq,and_true,true_and] at e;subst e;exact rmake12 (h1.now hb) (h2.now hb) h3 h4 h5 hk
 obtain ⟨la,hla⟩:∃la,m*n=la:=⟨_,rfl⟩
 rw [hla] at CK hMK ⊢;have HLA:=hid hla;dsimp only [matv] at CK ⊢;obtain ⟨W0,hW⟩:∃W0,(w.alloc (.cells #[.int .i64 (m:Int),.int .i64 (n:Int),.slice aa la ca] 24)).alloc mbox=W0:=⟨_,rfl⟩
 obtain ⟨b0,sz0⟩:=zXA w (.cells #[.int .i64 (m:Int),.int .i64 (n:Int),.slice aa la ca] 24) mbox;rw [hW] at b0 sz0;have dA:Cel W0 w.heap.size 24 [.int .i64 (m:Int),.int .i64 (n:Int),.slice aa la ca]:=by rw [←hW];exact (Cel.new w _ _).step ((Below.refl _ _).alloc (Nat.le_refl _) _)
 have dR:Cel W0 (w.heap.size+1) 24 [.int .i64 0,.int .i64 0,.slice none 0 0]:=by
  rw [←hW];have:=Cel.new (w.alloc (.cells #[.int .i64 (m:Int),.int .i64 (n:Int),.slice aa la ca] 24)) 24 [.int .i64 0,.int .i64 0,.slice none 0 0]
  simpa using this
 have DA:=hid dA;have DR:=hid dR;have B0:=hid b0;have EW:=hid hW;clear h hzl b0 sz0 hW dA dR hla;go_enter Tryz.func10,Tryz.ntmps10;go_upto_region 1 with fail
 rw [EW.out];clear EW;have x0:=DA.out.at (i:=0) rfl;have x1:=DA.out.at (i:=1) rfl;have x2:=DA.out.at (i:=2) rfl;go_wp2_with fail;refine (CK.out _ B0.out).mono ?_;rintro e w1 ⟨rfl,b⟩;replace DA:=hid (DA.out.step b);replace DR:=hid (DR.out.step b);replace B0:=hid (below_step B0.out b);clear b CK x0 x1 x2;have x0:=DA.out.at (i:=0) rfl;have x1:=DA.out.at (i:=1) rfl;have x2:=DA.out.at (i:=2) rfl;go_wp2_with fail;refine (hMK.out _ B0.out).mono ?_;rintro e w4 ⟨v4,rfl,q3,q4⟩;obtain ⟨a4,c4,rfl,-,-⟩:=q3.mx.form;rw [HLA.out] at q3 ⊢;dsimp only [matv] at q3 ⊢;have pr:=DR.out.step q4;have y0:=pr.at (i:=0) rfl;have y1:=pr.at (i:=1) rfl;have y2:=pr.at (i:=2) rfl;have f0:=pr.fz 0;have f1:=pr.fz 1;have f2:=pr.fz 2;have FF:Hid (zyA w m n zs k (.returned (.tuple #[.agg #[.int .i64 (m:Int),.int .i64 (n:Int),.slice a4 la c4],.int .i64 0])) (put3 w4 (w.heap.size+1) (.int .i64 (m:Int)) (.int .i64 (n:Int)) (.slice a4 la c4))∧Cel (put3 w4 (w.heap.size+1) (.int .i64 (m:Int)) (.int .i64 (n:Int)) (.slice a4 la c4)) (w.heap.size+1) 24 [.int .i64 (m:Int),.int .i64 (n:Int),.slice a4 la c4]) :=
  ⟨⟨_,rfl,q3.wk pr _ _ _,zVA (below_step B0.out q4) (Nat.le_succ _) _ _ _⟩,pr.put3 _ _ _⟩
 clear q3 q4 pr DR B0 x0 x1 x2 hMK DA;go_wp2_with fail;refine bodyPost_ret (zWC Tryz.results10 FF.out.2 _ (by rfl) (by rfl)) rfl ?_;exact FF.out.1


theorem zwE {B:Nat} {w0 w w':World} {v:Value} {l:List Nat} (h:Below B w0 w) (hB:B≤w.heap.size) (ho:Ivs B w v l) (hg:w.grownBy w' v.ownBlock):Below B w0 w' :=
 h.trans ⟨hg.os,hg.tape,hg.output,hg.size,fun k hk=>hg.block k (by omega) (fun e=>by have:=(ho.blk e.symm).1;omega)⟩
def zxB (γ:Nat→Nat) (i:Nat):List Nat:=(List.range i).map γ
theorem zYA (γ:Nat→Nat) (i:Nat):(zxB γ i).length=i:=by simp [zxB]
theorem zHF (γ:Nat→Nat) (i:Nat):zxB γ (i+1)=zxB γ i ++ [γ i]:=by simp [zxB,List.range_succ]
def zYJ (w:World) (r:Nat) (γ:Nat→Nat) (e:Ending) (w':World):Prop:=∃v,e=.returned (.tuple #[v,.bool true])∧Ivs w.heap.size w' v (zxB γ r)∧Below w.heap.size w w'
theorem zdC {w:World} {va:Value} {A:Int} {ka:Nat} (ha:Zi w va A ka) (hk:ka≤1099511627776) :
  Calls Tryz.prog 33 #[va] w (fun e w'=>e=.returned (.int .i64 (cmpI A 0))∧Below w.heap.size w w'):=by
 have za0:=ha;obtain ⟨na,xa,aa,ca,rfl,sa,ea,la⟩:=ha;obtain ⟨W0,hW0⟩:∃W0,w.alloc (duo (.bool na) (.slice aa xa.length ca))=W0:=⟨_,rfl⟩
 obtain ⟨b0,sz0⟩:=zXF w (duo (.bool na) (.slice aa xa.length ca));rw [hW0] at b0 sz0;have pa:Duo W0 (w.heap.size) (.bool na) (.slice aa xa.length ca):=by rw [←hW0];exact zFA (by simp)
 have Pa:=hid pa;have ia0:=pa.c0;have ia1:=pa.c1;have Za:=hid (za0.now b0);have Sa:=hid (sa.now b0);have EW:=hid hW0;have G:=hid b0;clear b0 hW0 za0 sa pa ;clear ea;have key:Hid (∀n (xs:List Int),zPA xs→(xs=[]→n=false)→iv n xs=A→(n=true∧cmpI A 0 = -1)∨(n=false∧(0:Int)<xs.length∧cmpI A 0=1)∨(n=false∧¬(0:Int)<xs.length∧cmpI A 0=0)):=fun n xs hc hn e=>by
  have hv:=zIA hc.1;have h0:xs≠[]→val xs≠0:=fun q e=>q (zGC hc e)
  cases n
  ·rw [zkE] at e
   by_cases q:xs=[]
   ·subst q;exact .inr (.inr ⟨rfl,by simp,by rw [←e];simp [val,cmpI]⟩)
   ·have:=h0 q
    exact .inr (.inl ⟨rfl,by have:=List.length_pos_iff.2 q;omega,zqA (by omega)⟩)
  ·rw [zLF] at e
   by_cases q:xs=[]
   ·exact absurd (hn q) (by simp)
   ·have:=h0 q
    exact .inl ⟨rfl,zpA (by omega)⟩
 go_enter Tryz.func33,Tryz.ntmps33;go_wp2_with fail;rw [EW.out];clear ia0 ia1;refine (zGH Za.out hk).mono ?_;rintro e w1 ⟨r,rfl,m1,b⟩;obtain ⟨n1,x1,a1,q1,rfl,-,t1,t2,t3,-⟩:=m1;have KK:=hid (key.out n1 x1 t1 t2 t3);have B1:=hid (below_step (below_step G.out b) (zXF w1 (duo (.bool n1) (.slice a1 x1.length q1))).1);clear b t1 t2 t3 key;rcases KK.out with ⟨rfl,e⟩ | ⟨rfl,hp,e⟩ | ⟨rfl,hp,e⟩
 all_goals
  have HE:=hid e;clear e KK;go_wp2;go_ret;exact ⟨by rw [HE.out];rfl,B1.out⟩
theorem rcmpAbs_z {w:World} {va vb:Value} {A B:Int} {ka kb:Nat} (ha:Zi w va A ka) (hb:Zi w vb B kb) (hk:ka≤1099511627776) (hl:kb≤1099511627776) :
  Calls Tryz.prog 60 #[va,vb] w (fun e w'=>e=.returned (.int .i64 (cmpI (A.natAbs:Int) (B.natAbs:Int)))∧Below w.heap.size w w'):=by
 have za0:=ha;obtain ⟨na,xa,aa,ca,rfl,sa,ea,la⟩:=ha;have zb0:=hb;obtain ⟨nb,xb,ab,cb,rfl,sb,eb,lb⟩:=hb;obtain ⟨W0,hW0⟩:∃W0,(w.alloc (duo (.bool na) (.slice aa xa.length ca))).alloc (duo (.bool nb) (.slice ab xb.length cb))=W0:=⟨_,rfl⟩
 obtain ⟨b0,sz0⟩:=zXA w (duo (.bool na) (.slice aa xa.length ca)) (duo (.bool nb) (.slice ab xb.length cb));rw [hW0] at b0 sz0;have pa:Duo W0 (w.heap.size) (.bool na) (.slice aa xa.length ca):=by rw [←hW0];exact zCA (zFA (by simp)) _
 have pb:Duo W0 (w.heap.size+1) (.bool nb) (.slice ab xb.length cb):=by rw [←hW0];exact zFA (by simp)
 have Pa:=hid pa;have ia0:=pa.c0;have ia1:=pa.c1;have Za:=hid (za0.now b0);have Sa:=hid (sa.now b0);have Pb:=hid pb;have ib0:=pb.c0;have ib1:=pb.c1;have Zb:=hid (zb0.now b0);have Sb:=hid (sb.now b0);have EW:=hid hW0;have G:=hid b0;clear b0 hW0 za0 sa pa zb0 sb pb ;have HC:=hid (zHH Sa.out Sb.out (by omega) (by omega));have ga:=zYD Sa.out.1 ea;have gb:=zYD Sb.out.1 eb;rw [ga,gb] at HC;clear ga gb;clear ea eb;generalize cmpI (A.natAbs:Int) (B.natAbs:Int)=C at *;go_enter Tryz.func60,Tryz.ntmps60;go_wp2_with fail;rw [EW.out];clear ia0 ia1 ib0 ib1;refine HC.out.mono ?_;rintro e w1 ⟨rfl,b⟩;have B1:=hid (below_step G.out b);clear b HC;go_wp2;go_ret;exact ⟨rfl,B1.out⟩
theorem zyI {w:World} {va vb:Value} {A B:Int} {ka kb:Nat} (ha:Zi w va A ka) (hb:Zi w vb B kb) (hk:ka≤1099511627776) (hl:kb≤1099511627776) :
  Calls Tryz.prog 34 #[va,vb] w (fun e w'=>e=.returned (.int .i64 (cmpI A B))∧Below w.heap.size w w'):=by
 have za0:=ha;obtain ⟨na,xa,aa,ca,rfl,sa,ea,la⟩:=ha;have zb0:=hb;obtain ⟨nb,xb,ab,cb,rfl,sb,eb,lb⟩:=hb;obtain ⟨W0,hW0⟩:∃W0,(w.alloc (duo (.bool na) (.slice aa xa.length ca))).alloc (duo (.bool nb) (.slice ab xb.length cb))=W0:=⟨_,rfl⟩
 obtain ⟨b0,sz0⟩:=zXA w (duo (.bool na) (.slice aa xa.length ca)) (duo (.bool nb) (.slice ab xb.length cb));rw [hW0] at b0 sz0;have pa:Duo W0 (w.heap.size) (.bool na) (.slice aa xa.length ca):=by rw [←hW0];exact zCA (zFA (by simp)) _
 have pb:Duo W0 (w.heap.size+1) (.bool nb) (.slice ab xb.length cb):=by rw [←hW0];exact zFA (by simp)
 have Pa:=hid pa;have ia0:=pa.c0;have ia1:=pa.c1;have Za:=hid (za0.now b0);have Sa:=hid (sa.now b0);have Pb:=hid pb;have ib0:=pb.c0;have ib1:=pb.c1;have Zb:=hid (zb0.now b0);have Sb:=hid (sb.now b0);have EW:=hid hW0;have G:=hid b0;clear b0 hW0 za0 sa pa zb0 sb pb ;clear ea eb;have H1:Hid (∀w',Below W0.heap.size W0 w'→_):=fun w' h=>zdC (Za.out.now h) hk
 have H2:Hid (∀w',Below W0.heap.size W0 w'→_):=fun w' h=>zdC (Zb.out.now h) hl
 have H3:Hid (∀w',Below W0.heap.size W0 w'→_):=fun w' h=>rcmpAbs_z (Za.out.now h) (Zb.out.now h) hk hl
 have bd:=zSA A 0;have bd2:=zSA (A.natAbs:Int) (B.natAbs:Int);have HS:Hid ((cmpI A 0=cmpI B 0→cmpI A 0*cmpI (A.natAbs:Int) (B.natAbs:Int)=cmpI A B)∧(cmpI A 0<cmpI B 0→cmpI A B = -1)∧(cmpI B 0<cmpI A 0→cmpI A B=1)):=by
  unfold Hid cmpI;refine ⟨?_,?_,?_⟩ <;> intro h <;> (repeat' split at h) <;> (repeat' split) <;> omega
 generalize cmpI A 0=S at *;generalize cmpI B 0=T at *;generalize cmpI (A.natAbs:Int) (B.natAbs:Int)=U at *;generalize cmpI A B=R at *;go_enter Tryz.func34,Tryz.ntmps34;go_wp2_with fail;rw [EW.out];clear ia0 ia1 ib0 ib1;refine (H1.out W0 (Below.refl _ _)).mono ?_;rintro e w1 ⟨rfl,b⟩;have B1:=hid b;replace Pa:=hid (Pa.out.step b);have ia0:=Pa.out.c0;have ia1:=Pa.out.c1;replace Pb:=hid (Pb.out.step b);have ib0:=Pb.out.c0;have ib1:=Pb.out.c1;replace G:=hid (below_step G.out b);clear b;go_wp2_with fail;clear ia0 ia1 ib0 ib1;refine (H2.out w1 B1.out).mono ?_;rintro e w2 ⟨rfl,b⟩;have B2:=hid (below_step B1.out b);replace Pa:=hid (Pa.out.step b);have ia0:=Pa.out.c0;have ia1:=Pa.out.c1;replace Pb:=hid (Pb.out.step b);have ib0:=Pb.out.c0;have ib1:=Pb.out.c1;replace G:=hid (below_step G.out b);clear b;rcases (show S=T∨S<T∨T<S by omega) with h | h | h
 ·have hne:(S != T)=false:=by simp [h]
  have HR:=hid (HS.out.1 h);have hm:IntKind.i64.wrap (S*U)=R:=by
   rw [HR.out,zTA] <;> rw [←HR.out]
   all_goals (obtain ⟨q1,q2⟩:=bd;obtain ⟨q3,q4⟩:=bd2;rcases (show S = -1∨S=0∨S=1 by omega) with e | e | e <;> rw [e] <;> omega)
  clear h HS;go_wp2_with fail;clear ia0 ia1 ib0 ib1;refine (H3.out w2 B2.out).mono ?_;rintro e w3 ⟨rfl,b⟩;have B3:=hid (below_step G.out b);clear b;go_wp2;go_ret;exact ⟨by first | rfl | rw [hm],B3.out⟩
 ·have hne:(S != T)=true:=by simp;omega
  have HR:=hid (HS.out.2.1 h);clear HS;go_wp2;go_ret;exact ⟨by rw [HR.out];rfl,G.out⟩
 ·have hne:(S != T)=true:=by simp;omega
  have h':¬S<T:=by omega
  have HR:=hid (HS.out.2.2 h);clear HS;go_wp2;go_ret;exact ⟨by rw [HR.out];rfl,G.out⟩
def zbI (w:World) (A0:List Value) (wx:World):Prop:=Cel wx w.heap.size 24 A0∧Below w.heap.size w wx
theorem zbI.step {w x y:World} {A0:List Value} (h:zbI w A0 x) (hb:Below x.heap.size x y):zbI w A0 y:=⟨h.1.step hb,below_step h.2 hb⟩
def zqI (w:World) (m r:Nat) (γ:Nat→Nat) (A0:List Value) (gk:Nat) (s4 s5:Value) (wx:World):Prop :=
 ∃i:Nat,s5=.int .i64 (i:Int)∧i≤m∧i≤r∧gk=m-i∧Ivs w.heap.size wx s4 (zxB γ i)∧zbI w A0 wx
def zcJ (W:World) (n:Nat) (F:Nat→Int) (gk:Nat) (s:Value) (wx:World):Prop :=
 ∃c:Nat,s=.int .i64 (c:Int)∧c≤n∧gk=n-c∧(∀j,j<c→F j=0)∧Below W.heap.size W wx
def zgG (W:World) (lo N:Nat) (gk:Nat) (s:Value) (wx:World):Prop :=
 ∃t:Nat,s=.int .i64 (t:Int)∧lo≤t∧t≤N∧gk=N-t∧Below W.heap.size W wx
theorem Ivs.at18 {B:Nat} {w:World} {v:Value} {l:List Nat} (h:Ivs B w v l) {t:Nat} (ht:t<l.length):∃g cap,v=.slice (some ⟨g,0,none⟩) l.length cap∧w.cell? ⟨g,t,none⟩=some (.int .i64 (l.getD t 0:Nat)):=by
 have h0:=h;obtain ⟨q1,⟨q2,q3⟩ | ⟨g,cap,cur,q2,q3,q4,q5,q6⟩⟩:=h
 ·omega
 ·refine ⟨g,cap,q2,?_⟩
  have h1:w.ownsRow B 3 1 (.slice (some ⟨g,0,none⟩) l.length cap) l.length (l.map fun (a:Nat)=>Value.int .i64 (a:Int)):=⟨q1,.inr ⟨g,cap,cur,rfl,q3,q4,q5,q6⟩⟩
  rw [h1.cellAt t (by omega)];simp [ht]
theorem zVG {B b:Nat} {w w':World} {v:Value} {l:List Nat} {L:List Value} (h:Cel w b 24 L) (hI:Ivs B w v l) (hg:w.grownBy w' v.ownBlock):Cel w' b 24 L:=by
 refine (hg.block b h.blk fun q=>?_).trans h;obtain ⟨_,⟨q1,_⟩ | ⟨g',cap',cur,q1,_,q4,_⟩⟩:=hI
 ·rw [q1] at q;cases q
 ·rw [q1] at q
  simp only [Value.ownBlock,Option.some.injEq] at q;subst q;have:=(show w.heap[_]?=_ from h).symm.trans q4;simp at this
theorem fst_row18 {n m r i c:Nat} {γ:Nat→Nat} {X:Nat→Nat→Int} (hE:Ec18 n m r id γ X) (hi:i<m) (hc:c<n) (h0:∀j,j<c→X i j=0) (h1:X i c≠0):i<r∧γ i=c:=by
 have hr:i<r:=Nat.lt_of_not_le fun q=>h1 (hE.rest i hi (fun a ha q1=>by simp only [id] at q1;omega) c hc)
 refine ⟨hr,?_⟩;have hp:=hE.pos i hr;simp only [id] at hp;rcases Nat.lt_trichotomy (γ i) c with q1 | q1 | q1
 ·have:=h0 _ q1;omega
 ·exact q1
 ·have:=hE.zero i c hr q1;simp only [id] at this;exact absurd this h1
theorem zLG {w:World} {v:Value} {m n k r:Nat} {γ:Nat→Nat} {zs:List Int} (h:Mx w v m n zs k) (hk:k≤1099511627776) (hE:Ec18 n m r id γ (en18 n zs)) (hR:Rd18 0 r id γ (en18 n zs)) :
  Calls Tryz.prog 12 #[v] w (zYJ w r γ):=by
 obtain ⟨ata,pa,rfl,pa1,pa2,pa3,hm,hn⟩:=h;have hrm:r≤m:=by
  rcases Nat.eq_zero_or_pos r with q | q
  ·omega
  ·have:=hE.rl (r-1) (by omega);simp only [id] at this;omega
 have hmn:m*n≤64*64:=Nat.mul_le_mul hm hn;have HAA:Hid (∀wx,Below w.heap.size w wx→∀i j,i<m→j<n→∃b off cap n1 a l c',ata=.slice (some ⟨b,off,none⟩) (m*n) cap∧wx.cell? ⟨b,off+(i*n+j)*2,none⟩=some (.bool n1)∧wx.cell? ⟨b,off+(i*n+j)*2+1,none⟩=some (.slice a l c')∧Zi wx (.agg #[.bool n1,.slice a l c']) (en18 n zs i j) k):=fun wx h i j hi hj=>by
  have:=(pa1.now h).isI12 (pa2.now h) (t:=i*n+j) (by rw [pa3];exact zJC hi hj);rw [pa3] at this;exact this
 obtain ⟨N,hN⟩:∃N,m*n=N:=⟨_,rfl⟩
 have HNN:=hid hN;obtain ⟨aa,ca,rfl,-,-,-,-⟩:=pa1.form;have hpl:pa.length=N:=by rw [pa2.1,pa3,hN]
 rw [hpl] at HAA ⊢;rw [hN] at HAA hmn;obtain ⟨W0,hW⟩:∃W0,w.alloc (matO m n (.slice aa N ca))=W0:=⟨_,rfl⟩
 obtain ⟨b0,sz0⟩:=alo1 w (matO m n (.slice aa N ca));rw [hW] at b0 sz0;have PA:Hid (Cel W0 w.heap.size 24 (matc m n (.slice aa N ca))):=by unfold Hid;rw [←hW];exact Cel.new w _ _
 have x0:=PA.out.at (i:=0) rfl;have x1:=PA.out.at (i:=1) rfl;have x2:=PA.out.at (i:=2) rfl;rw [←hW] at x0 x1 x2;have HK:=hid hk;have HE:=hid hE;have HR:=hid hR;have HRM:=hid hrm;have EW:=hid hW;have H0:Hid (zqI w m r γ (matc m n (.slice aa N ca)) m (.slice none 0 0) (.int .i64 0) W0):=⟨0,rfl,Nat.zero_le _,Nat.zero_le _,rfl,Ivs.nil _ _,PA.out,b0⟩
 clear pa1 pa2 pa3 hpl b0 sz0 hW hk hN hE hR hrm PA;go_enter Tryz.func12,Tryz.ntmps12;go_wp2_with fail;rw [EW.out];clear EW x0 x1 x2
 go_loopg [4,5] m (fun gk s4 s5 wx=>zqI w m r γ (matc m n (.slice aa N ca)) gk s4 s5 wx)
 case atStart=>exact H0.out
 case round =>
  clear H0;obtain ⟨i,rfl,him,hir,hgk,hiv,ho⟩:=hrel;have IV:=hid hiv;have OB:=hid ho;have HG:=hid hgk;clear hiv ho hgk;obtain ⟨al,cl,rfl,-,-⟩:=IV.out.form;rw [zYA] at IV ⊢;have x0:=OB.out.1.at (i:=0) rfl
  by_cases hlt:i<m
  ·have hlt':(i:Int)<(m:Int):=by omega
   obtain ⟨W2,hW2⟩:∃W2,wr=W2:=⟨_,rfl⟩
   rw [hW2] at IV OB x0 ⊢;have HMM:Hid (m-(i+1)<gk):=by unfold Hid;rw [HG.out];omega
   have H1:Hid (zcJ W2 n (en18 n zs i) n (.int .i64 0) W2):=⟨0,rfl,Nat.zero_le _,rfl,fun j hj=>by omega,Below.refl _ _⟩
   clear HG hW2;go_wp2_with fail
   go_loopg [6] n (fun gk2 s6 wx=>zcJ W2 n (en18 n zs i) gk2 s6 wx)
   case atStart=>exact H1.out
   case round =>
    clear H1 x0;obtain ⟨c,rfl,hcn,hg,hz0,hb⟩:=hrel;have BB:=hid hb;have HG:=hid hg;have HZ0:=hid hz0;clear hb hg hz0;have OB2:=hid (OB.out.step BB.out);have x1:=OB2.out.1.at (i:=1) rfl;have x2:=OB2.out.1.at (i:=2) rfl;have k1:=zJB (i:=i) (c:=n) (by omega) hn;have k1':=k1;rw [IntKind.wrap_i64] at k1'
    by_cases hlt2:c<n
    ·have hlt2':(c:Int)<(n:Int):=by omega
     have hw2:=zbA (i:=c) (by omega);obtain ⟨b1,o1,c1,n1,a1,l1,d1,e1,u0,u1,z1⟩:=HAA.out wr OB2.out.2 i c hlt hlt2;simp only [Value.slice.injEq] at e1;obtain ⟨rfl,-,rfl⟩:=e1;have hp1:i*n+c<N:=by rw [←HNN.out];exact zJC hlt hlt2
     have k3:IntKind.i64.wrap (((i*n:Nat):Int)+(c:Int))=((i*n+c:Nat):Int):=by rw [zTA] <;> omega
     obtain ⟨q1,hq1⟩:∃q1,i*n=q1:=⟨_,rfl⟩
     rw [hq1] at hp1 k1 k1' k3 u0 u1;obtain ⟨t1,ht1⟩:∃t1,q1+c=t1:=⟨_,rfl⟩
     rw [ht1] at hp1 k3 u0 u1;have hp1':(t1:Int)<(N:Int):=by omega
     have k3':=k3;rw [IntKind.wrap_i64] at k3';obtain ⟨z,hz⟩:∃z,en18 n zs i c=z:=⟨_,rfl⟩
     rw [hz] at z1;have Z1:=hid z1;have HQ1:=hid hq1;have HT1:=hid ht1;clear z1 hq1 ht1
     by_cases h0:z=0
     ·have HS:Hid (Calls Tryz.prog 33 #[.agg #[.bool n1,.slice a1 l1 d1]] wr fun e w'=>e=.returned (.int .i64 0)∧Below wr.heap.size wr w'):=by
       have:=zdC Z1.out HK.out;rw [h0,cmpI_self] at this;exact this
      have HMM2:Hid (n-(c+1)<gk):=by unfold Hid;rw [HG.out];omega
      have HZN:Hid (∀j,j<c+1→en18 n zs i j=0):=fun j hj=>by
       by_cases q:j<c
       ·exact HZ0.out j q
       ·obtain rfl:j=c:=by omega
        rw [hz];exact h0
      clear h0 hz Z1 HG HZ0;go_wp2_with fail;refine HS.out.mono ?_;rintro e w3 ⟨rfl,b⟩;have HN1:Hid (zcJ W2 n (en18 n zs i) (n-(c+1)) (.int .i64 ((c+1:Nat):Int)) w3):=⟨c+1,rfl,by omega,rfl,HZN.out,below_step BB.out b⟩
      clear HS HZN BB OB2 b u0 u1 x1 x2;go_wp2_with fail;go_roundg (n-(c+1))
      case rel=>exact HN1.out
      case measure=>exact HMM2.out
     ·obtain ⟨hir2,hgc⟩:=fst_row18 HE.out hlt hlt2 HZ0.out (by rw [hz];exact h0)
      have hpos:0<z:=by have:=HE.out.pos i hir2;simp only [id] at this;rw [hgc,hz] at this;exact this
      have HS:Hid (Calls Tryz.prog 33 #[.agg #[.bool n1,.slice a1 l1 d1]] wr fun e w'=>e=.returned (.int .i64 1)∧Below wr.heap.size wr w'):=by
       have:=zdC Z1.out HK.out;rw [zqA hpos] at this;exact this
      have HGC:=hid hgc;have HIR2:=hid hir2;have HZE:=hid hz;clear h0 hz hgc hir2 HG HZ0 hpos;go_wp2_with fail;refine HS.out.mono ?_;rintro e w3 ⟨rfl,b⟩;have OB3:=hid (OB2.out.step b);have IV3:=hid ((IV.out.now BB.out).now b);have Z3:=hid (Z1.out.now b);replace u0:=cnow b u0;replace u1:=cnow b u1;clear HS BB OB2 b x1 x2 Z1 IV OB;have x1:=OB3.out.1.at (i:=1) rfl;have x2:=OB3.out.1.at (i:=2) rfl;have hcn':((c:Int) == (n:Int))=false:=by simp;omega
      obtain ⟨V,hV⟩:∃V,w3.alloc (duo (.bool n1) (.slice a1 l1 d1))=V:=⟨_,rfl⟩
      obtain ⟨bV,szV⟩:=alo1 w3 (duo (.bool n1) (.slice a1 l1 d1));rw [hV] at bV szV;have PP:Hid (Duo V w3.heap.size (.bool n1) (.slice a1 l1 d1)):=by unfold Hid;rw [←hV];exact Duo.new w3 _ _
      have OV:=hid (OB3.out.step bV);have IVV:=hid (IV3.out.now bV);have ZV:=hid (Z3.out.now bV);have p0:=PP.out.c0;have p1:=PP.out.c1;have HS2:Hid (Calls Tryz.prog 33 #[.agg #[.bool n1,.slice a1 l1 d1]] V fun e w'=>e=.returned (.int .i64 1)∧Below V.heap.size V w'):=by
       have:=zdC ZV.out HK.out;rw [zqA (show 0<z by have:=HE.out.pos i HIR2.out;simp only [id] at this;rw [HGC.out,HZE.out] at this;exact this)] at this;exact this
      have EV:=hid hV;rw [←hV] at p0 p1;clear bV szV hV OB3 IV3 Z3;go_wp2_with fail;rw [EV.out];refine HS2.out.mono ?_;rintro e w4 ⟨rfl,b⟩;replace PP:=hid (PP.out.step b);replace OV:=hid (OV.out.step b);replace IVV:=hid (IVV.out.now b);replace ZV:=hid (ZV.out.now b);obtain ⟨pb,hpb⟩:∃pb,w3.heap.size=pb:=⟨_,rfl⟩
      rw [hpb] at PP;clear b EV HS2 p0 p1 u0 u1 x1 x2 k1 k1' k3 k3' hcn'
      by_cases hi0:i=0
      ·have hi0':¬(0:Int)<(i:Int):=by omega
       obtain ⟨W4,hW4⟩:∃W4,w4=W4:=⟨_,rfl⟩
       rw [hW4] at PP OV IVV ZV ⊢;have H4:Hid (zgG W4 0 i i (.int .i64 0) W4):=⟨0,rfl,Nat.le_refl _,Nat.zero_le _,rfl,Below.refl _ _⟩
       have HI0:=hid hi0;clear hW4 PP ZV hi0;go_wp2_with fail
       go_loopg [9] i (fun gk3 s9 wx=>zgG W4 0 i gk3 s9 wx)
       case atStart=>exact H4.out
       case round =>
       clear H4;obtain ⟨t,rfl,-,hti,hg,hb⟩:=hrel;have BB:=hid hb;clear hb hg;replace OV:=hid (OV.out.step BB.out);replace IVV:=hid (IVV.out.now BB.out);have hlt3':¬(t:Int)<(i:Int):=by have:=HI0.out;omega
       clear BB;have CV0:=hid (below_step OV.out.2 (Below.refl _ _));obtain ⟨V5,hV⟩:∃V5,wr.alloc (.cells #[.int .i64 (c:Int)] 3)=V5:=⟨_,rfl⟩
       obtain ⟨bv,szv⟩:=alo1 wr (.cells #[.int .i64 (c:Int)] 3);rw [hV] at bv szv;have CV:Hid (V5.cell? ⟨wr.heap.size,0,none⟩=some (.int .i64 (c:Int))):=by unfold Hid;rw [←hV];exact (Cel.new wr 3 [.int .i64 (c:Int)]).at (i:=0) rfl
       have OV5:=hid (OV.out.step bv);have IV5:=hid (IVV.out.now bv);have HL:Hid ((zxB γ i).length≤1000000):=by unfold Hid;rw [zYA];omega
       have EV:=hid hV;have hwi:=zbA (i:=i) (by omega);clear bv szv hV OV IVV CV0;go_wp2_with (at_builtin;rw [EV.out];refine zAC V5 rfl (.tmp 112) (.tmp 114) rfl w.heap.size _ (zxB γ i) c rfl IV5.out wr.heap.size rfl CV.out HL.out OV5.out.2.size ?_)
       intro g' cap' w5 hI hgr hbk;rw [zYA] at hI ⊢;have HN1:Hid (zqI w m r γ (matc m n (.slice (some ⟨b1,o1,none⟩) N ca)) (m-(i+1)) (.slice (some ⟨g',0,none⟩) (i+1) cap') (.int .i64 ((i+1:Nat):Int)) w5):=by
        refine ⟨i+1,rfl,by omega,HIR2.out,rfl,?_,?_,zwE OV5.out.2 OV5.out.2.size IV5.out hgr.out⟩
        ·have e:zxB γ (i+1)=zxB γ i ++ [c]:=by rw [zHF,HGC.out]
         rw [e];exact hI.out
        ·exact zVG OV5.out.1 IV5.out hgr.out
       clear OV5 IV5 EV CV HL hI hgr hbk;go_wp2_with fail;go_roundg (m-(i+1))
       case rel=>exact HN1.out
       case measure=>exact HMM.out
      ·have hi0':(0:Int)<(i:Int):=by omega
       obtain ⟨gl,cpl,el,kl⟩:=IVV.out.at18 (t:=i-1) (by rw [zYA];omega);rw [zYA] at el;simp only [Value.slice.injEq] at el;obtain ⟨rfl,-,rfl⟩:=el;obtain ⟨gc,hgc⟩:∃gc,(zxB γ i).getD (i-1) 0=gc:=⟨_,rfl⟩
       rw [hgc] at kl;have hgl:gc<c:=by
        rw [←hgc,←HGC.out];have e:(zxB γ i).getD (i-1) 0=γ (i-1):=by simp [zxB,show i-1<i by omega]
        rw [e];exact HE.out.up (i-1) i (by omega) HIR2.out
       have hgl':¬(c:Int)≤(gc:Int):=by omega
       have hgd:decide (c≤gc)=false:=by simp;omega
       obtain ⟨i1,hi1⟩:∃i1,i-1=i1:=⟨_,rfl⟩
       rw [hi1] at kl;have hw1:IntKind.i64.wrap ((i:Int)-1)=(i1:Int):=by rw [zTA] <;> omega
       have hi1':(i1:Int)<(i:Int):=by omega
       obtain ⟨W4,hW4⟩:∃W4,w4=W4:=⟨_,rfl⟩
       rw [hW4] at PP OV IVV ZV kl ⊢;have H4:Hid (zgG W4 0 i i (.int .i64 0) W4):=⟨0,rfl,Nat.le_refl _,Nat.zero_le _,rfl,Below.refl _ _⟩
       clear hW4 hgc hgl hi0;go_wp2_with fail
       try simp only [hgd]
       clear kl hgl' hgd hw1 hi1' hi1
       go_loopg [9] i (fun gk3 s9 wx=>zgG W4 0 i gk3 s9 wx)
       case atStart=>exact H4.out
       case round =>
        clear H4;obtain ⟨t,rfl,-,hti,hg,hb⟩:=hrel;have BB:=hid hb;have HG:=hid hg;clear hb hg;replace PP:=hid (PP.out.step BB.out);replace OV:=hid (OV.out.step BB.out);replace IVV:=hid (IVV.out.now BB.out);replace ZV:=hid (ZV.out.now BB.out)
        by_cases hlt3:t<i
        ·have hlt3':(t:Int)<(i:Int):=by omega
         have hw3:=zbA (i:=t) (by omega);have HMM3:Hid (i-(t+1)<gk):=by unfold Hid;rw [HG.out];omega
         have x1:=OV.out.1.at (i:=1) rfl;have x2:=OV.out.1.at (i:=2) rfl;obtain ⟨b3,o3,c3,n3,a3,l3,d3,e3,v0,v1,z3⟩:=HAA.out wr OV.out.2 t c (by omega) hlt2;simp only [Value.slice.injEq] at e3;have e31:=e3.1;simp only [Option.some.injEq,Addr.mk.injEq,and_true] at e31;obtain ⟨rfl,rfl⟩:=e31;have hp3:t*n+c<N:=by rw [←HNN.out];exact zJC (by omega) hlt2
         have k1:=zJB (i:=t) (c:=n) (by omega) hn;have k3:IntKind.i64.wrap (((t*n:Nat):Int)+(c:Int))=((t*n+c:Nat):Int):=by rw [zTA] <;> omega
         obtain ⟨q3,hq3⟩:∃q3,t*n=q3:=⟨_,rfl⟩
         rw [hq3] at hp3 k1 k3 v0 v1;obtain ⟨t3,ht3⟩:∃t3,q3+c=t3:=⟨_,rfl⟩
         rw [ht3] at hp3 k3 v0 v1;have hp3':(t3:Int)<(N:Int):=by omega
         have k1':=k1;rw [IntKind.wrap_i64] at k1';have k3':=k3;rw [IntKind.wrap_i64] at k3';obtain ⟨y,hy⟩:∃y,en18 n zs t c=y:=⟨_,rfl⟩
         have hrd:=HR.out t i (Nat.zero_le _) hlt3 HIR2.out;simp only [id] at hrd;rw [HGC.out,HZE.out,hy] at hrd;rw [hy] at z3;obtain ⟨VY,hVY⟩:∃VY,wr.alloc (duo (.bool n3) (.slice a3 l3 d3))=VY:=⟨_,rfl⟩
         obtain ⟨bY,szY⟩:=alo1 wr (duo (.bool n3) (.slice a3 l3 d3));rw [hVY] at bY szY;have PX:Hid (Duo VY wr.heap.size (.bool n3) (.slice a3 l3 d3)):=by unfold Hid;rw [←hVY];exact Duo.new wr _ _
         have ZX:=hid (z3.now bY);have PPY:=hid (PP.out.step bY);have BY:=hid (below_step BB.out bY);have HS3:=hid (zdC ZX.out HK.out);have hs3:¬cmpI y 0<0:=by
          unfold cmpI;rw [if_neg (by omega)]
          split <;> omega
         obtain ⟨sy,hsy⟩:∃sy,cmpI y 0=sy:=⟨_,rfl⟩
         rw [hsy] at HS3 hs3;have HC3:Hid (∀w',Below VY.heap.size VY w'→Calls Tryz.prog 34 #[.agg #[.bool n3,.slice a3 l3 d3],.agg #[.bool n1,.slice a1 l1 d1]] w' fun e w''=>e=.returned (.int .i64 (-1))∧Below w'.heap.size w' w''):=fun w' hb=>by
          have:=zyI (ZX.out.now hb) ((ZV.out.now bY).now hb) HK.out HK.out;rw [zpA hrd.2] at this;exact this
         have p0:=PX.out.c0;have p1:=PX.out.c1;have EY:=hid hVY;rw [←hVY] at p0 p1;clear hrd z3 hy bY szY hVY hsy hq3 ht3 HG e3;go_wp2_with fail;rw [EY.out];refine HS3.out.mono ?_;rintro e w6 ⟨rfl,b⟩;have p2:=(PX.out.step b).c0;have p3:=(PX.out.step b).c1;have p4:=(PPY.out.step b).c0;have p5:=(PPY.out.step b).c1;have HC4:=hid (HC3.out _ b);have BY6:=hid (below_step BY.out b);clear p0 p1 EY HS3 HC3 b x1 x2 v0 v1;go_wp2_with fail;refine HC4.out.mono ?_;rintro e w7 ⟨rfl,b⟩;have HN3:Hid (zgG W4 0 i (i-(t+1)) (.int .i64 ((t+1:Nat):Int)) w7):=⟨t+1,rfl,Nat.zero_le _,by omega,rfl,below_step BY6.out b⟩
         clear HC4 BY6 BY b p2 p3 p4 p5 PX PPY ZX k1 k1' k3 k3' hp3 hp3';go_wp2_with fail;go_roundg (i-(t+1))
         case rel=>exact HN3.out
         case measure=>exact HMM3.out
        ·have hlt3':¬(t:Int)<(i:Int):=by omega
         clear PP ZV HG BB;have CV0:=hid (below_step OV.out.2 (Below.refl _ _));obtain ⟨V5,hV⟩:∃V5,wr.alloc (.cells #[.int .i64 (c:Int)] 3)=V5:=⟨_,rfl⟩
         obtain ⟨bv,szv⟩:=alo1 wr (.cells #[.int .i64 (c:Int)] 3);rw [hV] at bv szv;have CV:Hid (V5.cell? ⟨wr.heap.size,0,none⟩=some (.int .i64 (c:Int))):=by unfold Hid;rw [←hV];exact (Cel.new wr 3 [.int .i64 (c:Int)]).at (i:=0) rfl
         have OV5:=hid (OV.out.step bv);have IV5:=hid (IVV.out.now bv);have HL:Hid ((zxB γ i).length≤1000000):=by unfold Hid;rw [zYA];omega
         have EV:=hid hV;have hwi:=zbA (i:=i) (by omega);clear bv szv hV OV IVV CV0;go_wp2_with (at_builtin;rw [EV.out];refine zAC V5 rfl (.tmp 112) (.tmp 114) rfl w.heap.size _ (zxB γ i) c rfl IV5.out wr.heap.size rfl CV.out HL.out OV5.out.2.size ?_)
         intro g' cap' w5 hI hgr hbk;rw [zYA] at hI ⊢;have HN1:Hid (zqI w m r γ (matc m n (.slice (some ⟨b1,o1,none⟩) N ca)) (m-(i+1)) (.slice (some ⟨g',0,none⟩) (i+1) cap') (.int .i64 ((i+1:Nat):Int)) w5):=by
          refine ⟨i+1,rfl,by omega,HIR2.out,rfl,?_,?_,zwE OV5.out.2 OV5.out.2.size IV5.out hgr.out⟩
          ·have e:zxB γ (i+1)=zxB γ i ++ [c]:=by rw [zHF,HGC.out]
           rw [e];exact hI.out
          ·exact zVG OV5.out.1 IV5.out hgr.out
         clear OV5 IV5 EV CV HL hI hgr hbk;go_wp2_with fail;go_roundg (m-(i+1))
         case rel=>exact HN1.out
         case measure=>exact HMM.out
    ·have hce:c=n:=by omega
     have hlt2':¬(c:Int)<(n:Int):=by omega
     have hir3:r≤i:=Nat.le_of_not_lt fun q=>by
      have h1:=HE.out.pos i q;have h2:=HE.out.cl i q;have h3:=HZ0.out (γ i) (by omega);simp only [id] at h1;omega
     obtain rfl:i=r:=by omega
     have hceq:((c:Int) == (n:Int))=true:=by simp;omega
     obtain ⟨lo,hlo⟩:∃lo,i*n=lo:=⟨_,rfl⟩
     rw [hlo] at k1 k1';have hloN:lo≤N:=by rw [←hlo,←HNN.out];exact Nat.mul_le_mul_right n him
     have HLO:=hid hlo;have IV2:=hid (IV.out.now BB.out);obtain ⟨W4,hW4⟩:∃W4,wr=W4:=⟨_,rfl⟩
     rw [hW4] at OB2 IV2 x1 x2 ⊢;have H4:Hid (zgG W4 lo N (N-lo) (.int .i64 (lo:Int)) W4):=⟨lo,rfl,Nat.le_refl _,hloN,rfl,Below.refl _ _⟩
     clear HG hW4 hlo IV OB BB HZ0;go_wp2_with fail
     go_loopg [7] (N-lo) (fun gk3 s7 wx=>zgG W4 lo N gk3 s7 wx)
     case atStart=>exact H4.out
     case round =>
      clear H4 x1 x2 k1 k1';obtain ⟨t,rfl,hlt4,htN,hg,hb⟩:=hrel;have B4:=hid hb;have HG:=hid hg;clear hb hg;have OB4:=hid (OB2.out.step B4.out);have x2:=OB4.out.1.at (i:=2) rfl
      by_cases hlt3:t<N
      ·have hlt3':(t:Int)<(N:Int):=by omega
       have hw3:=zbA (i:=t) (by omega);have HMM3:Hid (N-(t+1)<gk):=by unfold Hid;rw [HG.out];omega
       have hn0:0<n:=Nat.pos_of_ne_zero fun q=>by have h1:=HNN.out;rw [q,Nat.mul_zero] at h1;omega
       have hti:i≤t / n:=(Nat.le_div_iff_mul_le hn0).2 (by rw [HLO.out];exact hlt4);have htm:t / n<m:=(Nat.div_lt_iff_lt_mul hn0).2 (by rw [HNN.out];exact hlt3);obtain ⟨b3,o3,c3,n3,a3,l3,d3,e3,v0,v1,z3⟩:=HAA.out wr OB4.out.2 (t / n) (t % n) htm (Nat.mod_lt _ hn0);simp only [Value.slice.injEq] at e3;obtain ⟨rfl,-,rfl⟩:=e3;have htt:t / n*n+t % n=t:=by rw [Nat.mul_comm];exact Nat.div_add_mod t n
       rw [htt] at v0 v1;have hz3:en18 n zs (t / n) (t % n)=0:=HE.out.rest (t / n) htm (fun a ha q1=>by simp only [id] at q1;omega) _ (Nat.mod_lt _ hn0);rw [hz3] at z3;have HS3:Hid (Calls Tryz.prog 33 #[.agg #[.bool n3,.slice a3 l3 d3]] wr fun e w'=>e=.returned (.int .i64 0)∧Below wr.heap.size wr w'):=by
        have:=zdC z3 HK.out;rw [cmpI_self] at this;exact this
       clear z3 hz3 htt htm hti HG;go_wp2_with fail;refine HS3.out.mono ?_;rintro e w6 ⟨rfl,b⟩;have HN3:Hid (zgG W4 lo N (N-(t+1)) (.int .i64 ((t+1:Nat):Int)) w6):=⟨t+1,rfl,by omega,by omega,rfl,below_step B4.out b⟩
       clear HS3 B4 OB4 b x2 v0 v1;go_wp2_with fail;go_roundg (N-(t+1))
       case rel=>exact HN3.out
       case measure=>exact HMM3.out
      ·have hlt3':¬(t:Int)<(N:Int):=by omega
       have FIN:Hid (zYJ w i γ (.returned (.tuple #[.slice al i cl,.bool true])) wr):=⟨_,rfl,IV2.out.now B4.out,OB4.out.2⟩
       clear HG B4 OB4 IV2;go_wp2;go_ret2;exact FIN.out
  ·obtain rfl:i=m:=by omega
   obtain rfl:i=r:=by have:=HRM.out;omega
   have hlt':¬(i:Int)<(i:Int):=by omega
   have FIN:Hid (zYJ w i γ (.returned (.tuple #[.slice al i cl,.bool true])) wr):=⟨_,rfl,IV.out,OB.out.2⟩
   clear HG IV OB;go_wp2;go_ret2;exact FIN.out
end Go.Proofs.YtjjpodnjljfheaaGreat
