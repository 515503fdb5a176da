import Derived.Test.YtjnokjgbeploaaaGreatQSe14
import Derived.Test.YtjnokjgbeploaaaGreatQLs14ToRs13
set_option maxRecDepth 100000
set_option maxHeartbeats 6400000
set_option linter.unusedVariables false
set_option linter.unusedSimpArgs false
namespace Go.Proofs.YtjnokjgbeploaaaGreat
open Go.RowKit
theorem Zms.more14 {w:World} {ps:List (Value×Value)} {zs:List Int} {k K:Nat} (h:Zms w ps zs k) (hk:k≤K):Zms w ps zs K:=⟨h.1,fun j p z hp hz=>(h.2 j p z hp hz).more hk⟩
theorem wf_map (l:List Nat):wf l.length (nf14 l)=l.map fun (a:Nat)=>Value.int .i64 (a:Int):=by
 refine List.ext_getElem (by simp [wf]) fun i h1 h2=>?_
 have hi:i<l.length:=by simpa [wf] using h1
 simp [wf,nf14,hi]
theorem Ivs.row14 {B m cap:Nat} {a:Option Addr} {w:World} {l:List Nat} (h:Ivs B w (.slice a m cap) l) (hm:l.length=m):m≤cap∧(0<m→∃g,a=some ⟨g,0,none⟩∧B≤g∧∃r,Cel w g 3 (wf m (nf14 l) ++ r)):=by
 subst hm;obtain ⟨q1,⟨q2,q3⟩ | ⟨g,cap',cur,q2,q3,q4,q5,q6,q7,q8⟩⟩:=h
 ·exact ⟨by omega,fun q=>by omega⟩
 ·simp only [Value.slice.injEq] at q2
  obtain ⟨rfl,-,rfl⟩:=q2;refine ⟨q5,fun _=>⟨g,rfl,q3,cur.toList.drop l.length,?_⟩⟩;unfold Cel;rw [q4,wf_map,←q8,Nat.mul_one,List.take_append_drop]
def TbH (W2:World) (m n rk:Nat) (va vo x y:Value) (gk:Nat) (s:Value) (wx:World):Prop :=
 ∃(i:Nat) (vb:Value),s=.int .i64 (i:Int)∧i≤m∧gk=m-i∧Cel wx W2.heap.size 103 (tbL m n rk va vb vo x y)∧Ivs W2.heap.size wx vb ((List.range i).map (n + ·))∧Below W2.heap.size W2 wx
theorem cells14 {w w':World} {W2:World} {v:Value} {l:List Nat} (h:Ivs W2.heap.size w v l) (hg:w.grownBy w' v.ownBlock) {p:Addr} {u:Value} (hp:p.block<W2.heap.size) (hw:W2.heap.size≤w.heap.size) (hc:w.cell? p=some u):w'.cell? p=some u :=
 (World.cell?_of_block (hg.block p.block (by omega) (fun q=>by have:=(h.blk q.symm).1;omega))).trans hc
def zbI (w:World) (m n:Nat) (bs os:List Nat) (F:Nat→Nat→Int) (d:Int) (rk K:Nat) (e:Ending) (w':World):Prop :=
 ∃bt ga gb go,e=.returned (.pointer (some ⟨bt,0,none⟩))∧w.heap.size≤bt∧w.heap.size≤ga∧w.heap.size≤gb∧w.heap.size≤go∧TabM w' bt ga gb go m n bs os F d rk K∧Below w.heap.size w w'
theorem tableOf_any {w:World} {va:Value} {m n k KW:Nat} {zs:List Int} (ha:Mx w va m n zs k) (hkK:k≤KW) (hK1:1≤KW) :
  Calls Tryz.prog 68 #[va] w (zbI w m n ((List.range m).map (n + ·)) (List.range n) (en n zs) 1 (min m n) KW):=by
 have M0:=ha;obtain ⟨aa,ca,rfl,hm64,hn64⟩:=ha.form;have hzl:zs.length=m*n:=by obtain ⟨_,_,_,_,_,h,_⟩:=ha;exact h
 obtain ⟨la,hla⟩:∃la,m*n=la:=⟨_,rfl⟩
 rw [hla] at M0 ⊢;obtain ⟨W0,hW⟩:∃W0,w.alloc (matO m n (.slice aa la ca))=W0:=⟨_,rfl⟩
 obtain ⟨b0,sz0⟩:=alo1 w (matO m n (.slice aa la ca));rw [hW] at b0 sz0;have PM:Hid (Cel W0 w.heap.size 24 (matc m n (.slice aa la ca))):=by unfold Hid;rw [←hW];exact Cel.new w _ _
 have HL:=hid (leastZ_yes (M0.now b0));have G:=hid b0;have EW:=hid hW;have HZL:=hid hzl;have HLA:=hid hla;have HKK:=hid hkK;have HK1:=hid hK1;clear ha M0 b0 hW hzl hla hkK hK1;go_enter Tryz.func68,Tryz.ntmps68;go_wp2_with fail;rw [EW.out];clear EW;refine HL.out.mono ?_;rintro e w1 ⟨ga,ln,ps,rfl,hga,hpl,harr,hzms,b⟩;have hln:ln=m*n:=by rw [←hpl,hzms.1,HZL.out]
 have HLN:=hid hln;have AR:Hid (AZ w1 ga zs KW):=⟨ps,harr,hzms.more14 HKK.out⟩
 replace PM:=hid (PM.out.step b);replace G:=hid (zBA G.out b);obtain ⟨V1,hV⟩:∃V1,w1.alloc (matO m n (.slice (some ⟨ga,0,none⟩) ln ln))=V1:=⟨_,rfl⟩
 obtain ⟨b1,sz1⟩:=alo1 w1 (matO m n (.slice (some ⟨ga,0,none⟩) ln ln));rw [hV] at b1 sz1;have PO:Hid (Cel V1 w1.heap.size 24 (matc m n (.slice (some ⟨ga,0,none⟩) ln ln))):=by unfold Hid;rw [←hV];exact Cel.new w1 _ _
 replace PM:=hid (PM.out.step b1);replace AR:=hid (AR.out.step b1);replace G:=hid (zBA G.out b1);have HGA:Hid (w.heap.size≤ga):=by unfold Hid;omega
 have EV:=hid hV;have a0:=PM.out.at (i:=0) rfl;have a1:=PM.out.at (i:=1) rfl;have o0:=PO.out.at (i:=0) rfl;have o1:=PO.out.at (i:=1) rfl;have o2:=PO.out.at (i:=2) rfl;obtain ⟨mi,hmi⟩:∃mi,min m n=mi:=⟨_,rfl⟩
 have HMI:=hid hmi;have hmi2:min (m:Int) (n:Int)=(mi:Int):=by omega
 clear HL hln hpl harr hzms b b1 sz1 hV hga hmi;go_wp2_with fail;rw [EV.out];clear EV;have KB:Hid (∀w',Below V1.heap.size V1 w'→w'.cell? ⟨w.heap.size,0,none⟩=some (.int .i64 (m:Int))∧w'.cell? ⟨w.heap.size,1,none⟩=some (.int .i64 (n:Int))∧w'.cell? ⟨w1.heap.size,0,none⟩=some (.int .i64 (m:Int))∧w'.cell? ⟨w1.heap.size,1,none⟩=some (.int .i64 (n:Int))∧w'.cell? ⟨w1.heap.size,2,none⟩=some (.slice (some ⟨ga,0,none⟩) ln ln)):=fun w' h=>⟨cnow h a0,cnow h a1,cnow h o0,cnow h o1,cnow h o2⟩
 refine zDA (fun w'=>w'.cell? ⟨w.heap.size,0,none⟩=some (.int .i64 (m:Int))∧w'.cell? ⟨w.heap.size,1,none⟩=some (.int .i64 (n:Int))∧w'.cell? ⟨w1.heap.size,0,none⟩=some (.int .i64 (m:Int))∧w'.cell? ⟨w1.heap.size,1,none⟩=some (.int .i64 (n:Int))∧w'.cell? ⟨w1.heap.size,2,none⟩=some (.slice (some ⟨ga,0,none⟩) ln ln)) 12 (by kernel_rfl) ?_;obtain ⟨D1,hD⟩:∃D1,V1.drew=D1:=⟨_,rfl⟩
 have GB:Hid (Below V1.heap.size V1 D1):=by unfold Hid;rw [←hD];exact (Below.refl _ _).drew
 rw [hD];clear hD;have GZ:Hid (V1.heap.size≤D1.heap.size):=GB.out.size;refine zAA (i:=0) (oi:=⟨some 12,.load 24 (.tmp 3),24, "table.go:37",#[],none⟩) (v:=(.agg #[.int .i64 (m:Int),.int .i64 (n:Int),(.slice (some ⟨ga,0,none⟩) ln ln)])) rfl (by kernel_rfl) (fun _ _ _ h=>h) (Or.inl ⟨by rfl,?_⟩) (KB.out _ GB.out) ?_
 ·intro w hSw;(try dsimp only at hSw);go_simp
 simp only [Act.put,sIb,sC0,sC1];refine zAA (i:=1) (oi:=⟨some 13,.fieldAddr 24 (.tmp 1) 1,0, "table.go:37",#[],none⟩) (v:=(.pointer (some ⟨w.heap.size,1,none⟩))) rfl (by kernel_rfl) (fun _ _ _ h=>h) (Or.inl ⟨by rfl,?_⟩) (KB.out _ GB.out) ?_
 ·intro w hSw;(try dsimp only at hSw);go_simp
 simp only [Act.put,sIb,sC0,sC1];refine zAA (i:=2) (oi:=⟨some 14,.load 3 (.tmp 13),3, "table.go:37",#[⟨1,.data⟩],none⟩) (v:=(.int .i64 (n:Int))) rfl (by kernel_rfl) (fun _ _ _ h=>h) (Or.inl ⟨by rfl,?_⟩) (KB.out _ GB.out) ?_
 ·intro w hSw;(try dsimp only at hSw);go_simp
 simp only [Act.put,sIb,sC0,sC1];refine zAA (i:=5) (oi:=⟨some 17,.fieldAddr 24 (.tmp 1) 0,0, "table.go:37",#[],none⟩) (v:=(.pointer (some ⟨w.heap.size,0,none⟩))) rfl (by kernel_rfl) (fun _ _ _ h=>h) (Or.inl ⟨by rfl,?_⟩) (KB.out _ GB.out) ?_
 ·intro w hSw;(try dsimp only at hSw);go_simp
 simp only [Act.put,sIb,sC0,sC1];refine zAA (i:=6) (oi:=⟨some 18,.load 3 (.tmp 17),3, "table.go:37",#[⟨5,.data⟩],none⟩) (v:=(.int .i64 (m:Int))) rfl (by kernel_rfl) (fun _ _ _ h=>h) (Or.inl ⟨by rfl,?_⟩) (KB.out _ GB.out) ?_
 ·intro w hSw;(try dsimp only at hSw);go_simp
 simp only [Act.put,sIb,sC0,sC1];refine zAA (i:=7) (oi:=⟨some 19,.fieldAddr 24 (.tmp 1) 1,0, "table.go:37",#[],none⟩) (v:=(.pointer (some ⟨w.heap.size,1,none⟩))) rfl (by kernel_rfl) (fun _ _ _ h=>h) (Or.inl ⟨by rfl,?_⟩) (KB.out _ GB.out) ?_
 ·intro w hSw;(try dsimp only at hSw);go_simp
 simp only [Act.put,sIb,sC0,sC1];refine zAA (i:=8) (oi:=⟨some 20,.load 3 (.tmp 19),3, "table.go:37",#[⟨7,.data⟩],none⟩) (v:=(.int .i64 (n:Int))) rfl (by kernel_rfl) (fun _ _ _ h=>h) (Or.inl ⟨by rfl,?_⟩) (KB.out _ GB.out) ?_
 ·intro w hSw;(try dsimp only at hSw);go_simp
 simp only [Act.put,sIb,sC0,sC1];refine zAA (i:=9) (oi:=⟨some 21,.call { callee:=.builtin .min,args:=#[.tmp 18,.tmp 20],argTypes:=#[3,3] },3, "table.go:37",#[⟨6,.data⟩,⟨8,.data⟩],none⟩) (v:=(.int .i64 (mi:Int))) rfl (by kernel_rfl) (fun _ _ _ h=>h) (Or.inl ⟨by rfl,?_⟩) (KB.out _ GB.out) ?_
 ·intro w hSw;(try dsimp only at hSw);go_simp
 simp only [Act.put,sIb,sC0,sC1];refine zCA (i:=3) (o:=⟨some 15,.call { callee:=.value (.func 71),args:=#[.tmp 14],argTypes:=#[3] },47, "table.go:37",#[⟨2,.data⟩],none⟩) (by kernel_rfl) rfl (fun K hK=>?_);replace GZ:Hid (V1.heap.size≤D1.heap.size):=GB.out.size;go_simp;go_at_call 71;refine (zsB (k:=n) (by omega)).mono ?_;rintro e w2 ⟨rfl,hcf,b⟩;have lz2:=(show Below _ _ _ from b).size;replace GB:=hid (zBA GB.out b);have HGO:Hid (w.heap.size≤D1.heap.size):=by unfold Hid;have h1:=G.out.size;have h2:=GZ.out;omega
 have CO:=hid hcf;clear hcf;clear b;refine hK.out _ _ (fun _=>KB.out _ GB.out) ?_;clear hK;refine zCA (i:=4) (o:=⟨some 16,.call { callee:=.value (.func 25),args:=#[.const (.int .i64 1)],argTypes:=#[2] },39, "table.go:37",#[⟨3,.chain⟩],none⟩) (by kernel_rfl) rfl (fun K hK=>?_);replace GZ:Hid (V1.heap.size≤w2.heap.size):=GB.out.size;go_simp;go_at_call 25;refine (of_z (n:=1) (by decide) (by decide) _).mono ?_;rintro e w3 ⟨r1,rfl,m1,b⟩;have lz3:=(show Below _ _ _ from b).size;replace GB:=hid (zBA GB.out b);replace CO:=hid (CO.out.step b);have MO:=hid (m1.mono (Nat.zero_le _));obtain ⟨nm,xm,am,cm,rfl⟩:=m1.parts;obtain ⟨lm,hlm⟩:∃lm,xm.length=lm:=⟨_,rfl⟩
 rw [hlm] at MO ⊢;clear m1 hlm;clear b;refine hK.out _ _ (fun _=>KB.out _ GB.out) ?_;clear hK;refine zAA (i:=10) (oi:=⟨some 22,.build 103 #[(0,.tmp 12),(2,.tmp 15),(3,.tmp 16),(4,.tmp 21)],103, "table.go:37",#[⟨0,.data⟩,⟨3,.data⟩,⟨4,.data⟩,⟨9,.data⟩],none⟩) (v:=(.agg #[.int .i64 (m:Int),.int .i64 (n:Int),(.slice (some ⟨ga,0,none⟩) ln ln),.slice none 0 0,.slice (some ⟨D1.heap.size,0,none⟩) n n,.bool nm,.slice am lm cm,.int .i64 (mi:Int)])) rfl (by kernel_rfl) (fun _ _ _ h=>h) (Or.inl ⟨by rfl,?_⟩) (KB.out _ GB.out) ?_
 ·intro w hSw;(try dsimp only at hSw);go_simp
 simp only [Act.put,sIb,sC0,sC1];refine zCA (i:=11) (o:=⟨some 23,.box 103 (.tmp 22),84, "table.go:37",#[⟨10,.data⟩],none⟩) (by kernel_rfl) rfl (fun K hK=>?_);go_simp;obtain ⟨V4,hW⟩:∃V4,w3.alloc (.cells #[.int .i64 (m:Int),.int .i64 (n:Int),(.slice (some ⟨ga,0,none⟩) ln ln),.slice none 0 0,.slice (some ⟨D1.heap.size,0,none⟩) n n,.bool nm,.slice am lm cm,.int .i64 (mi:Int)] 103)=V4:=⟨_,rfl⟩
 obtain ⟨b,sz4⟩:=alo1 w3 (.cells #[.int .i64 (m:Int),.int .i64 (n:Int),(.slice (some ⟨ga,0,none⟩) ln ln),.slice none 0 0,.slice (some ⟨D1.heap.size,0,none⟩) n n,.bool nm,.slice am lm cm,.int .i64 (mi:Int)] 103);rw [hW] at b sz4;have GX:=GB;replace GB:=hid (zBA GB.out b);have CT:Hid (Cel V4 w3.heap.size 103 [.int .i64 (m:Int),.int .i64 (n:Int),(.slice (some ⟨ga,0,none⟩) ln ln),.slice none 0 0,.slice (some ⟨D1.heap.size,0,none⟩) n n,.bool nm,.slice am lm cm,.int .i64 (mi:Int)]):=by unfold Hid;rw [←hW];exact Cel.new w3 _ _
 have BX:=hid b;rw [hW];clear hW b sz4;refine hK.out _ _ (fun _=>KB.out _ GB.out) ?_;clear hK
 try simp only [Act.put]
 refine zCA (i:=12) (o:=⟨some 5,.assign (.tmp 23),84, "table.go:37",#[⟨11,.data⟩,⟨4,.chain⟩,⟨0,.phase⟩,⟨1,.phase⟩,⟨2,.phase⟩,⟨3,.phase⟩,⟨4,.phase⟩,⟨5,.phase⟩,⟨6,.phase⟩,⟨7,.phase⟩,⟨8,.phase⟩,⟨9,.phase⟩,⟨10,.phase⟩,⟨11,.phase⟩],none⟩) (by kernel_rfl) rfl (fun K hK=>?_);go_simp;refine hK.out _ _ (fun h=>absurd h (by decide)) ?_;clear hK
 try simp only [Act.put]
 refine zFA (by kernel_rfl) ?_ _;have PM2:=hid (PM.out.step GX.out);have AR2:=hid (AR.out.step GX.out);have G2:=hid (zBA G.out GX.out);have SB:Hid (w.heap.size≤w3.heap.size):=G2.out.size;have H0:Hid (TbH w3 m n mi (.slice (some ⟨ga,0,none⟩) ln ln) (.slice (some ⟨D1.heap.size,0,none⟩) n n) (.bool nm) (.slice am lm cm) m (.int .i64 0) V4):=⟨0,_,rfl,Nat.zero_le _,by omega,CT.out,Ivs.nil _ _,BX.out⟩
 have q0:=(PM2.out.step BX.out).at (i:=0) rfl;obtain ⟨W2,hW2⟩:∃W2,W2=w3:=⟨_,rfl⟩
 obtain ⟨gg,hgg⟩:∃gg,D1.heap.size=gg:=⟨_,rfl⟩
 rw [hgg] at H0 CO HGO ⊢;rw [←hW2] at H0 PM2 AR2 G2 SB CO MO ⊢;clear GB GX KB GZ PM AR G CT BX hgg a0 a1 o0 o1 o2 hmi2 PO;clear hW2;go_wp2_with fail;clear q0
 go_loopg [26] m (fun gk s26 wx=>TbH W2 m n mi (.slice (some ⟨ga,0,none⟩) ln ln) (.slice (some ⟨gg,0,none⟩) n n) (.bool nm) (.slice am lm cm) gk s26 wx)
 case atStart=>exact H0.out
 case round =>
  clear H0;obtain ⟨i,vb,rfl,him,hgk,hct,hiv,hbw⟩:=hrel;have CT:=hid hct;have IV:=hid hiv;have BW:=hid hbw;have HG:=hid hgk;clear hct hiv hbw hgk;obtain ⟨ab,cb,hvb,-,-⟩:=IV.out.form;rw [show ((List.range i).map (n + ·)).length=i by simp] at hvb;subst hvb
  by_cases hlt:i<m
  ·have hlt':(i:Int)<(m:Int):=by omega
   have hwi:=zNA (i:=i) (by omega);have hws:IntKind.i64.wrap ((n:Int)+(i:Int))=((n+i:Nat):Int):=by rw [zaA] <;> omega
   have HMM:Hid (m-(i+1)<gk):=by unfold Hid;rw [HG.out];omega
   have c3:=CT.out.at (i:=3) rfl;have c1:=(PM2.out.step BW.out).at (i:=1) rfl;obtain ⟨ni,hni⟩:∃ni,n+i=ni:=⟨_,rfl⟩
   rw [hni] at hws;have ENI:=hid hni;have HL:Hid (((List.range i).map (n + ·)).length≤1000000):=by unfold Hid;simp;omega
   clear HG hni;go_wp2_with fail;have KB:Hid (∀w',Below wr.heap.size wr w'→w'.cell? ⟨W2.heap.size,3,none⟩=some (.slice ab i cb)∧w'.cell? ⟨w.heap.size,1,none⟩=some (.int .i64 (n:Int))):=fun w' h=>⟨cnow h c3,cnow h c1⟩
   refine zDA (fun w'=>w'.cell? ⟨W2.heap.size,3,none⟩=some (.slice ab i cb)∧w'.cell? ⟨w.heap.size,1,none⟩=some (.int .i64 (n:Int))) 13 (by kernel_rfl) ?_;obtain ⟨D41,hD⟩:∃D41,wr.drew=D41:=⟨_,rfl⟩
   have GB:Hid (Below wr.heap.size wr D41):=by unfold Hid;rw [←hD];exact (Below.refl _ _).drew
   rw [hD];clear hD;have KC:=hid (KB.out _ GB.out);refine zAA (i:=0) (oi:=⟨some 29,.move (.tmp 5),84, "table.go:39",#[],none⟩) (v:=(.pointer (some ⟨W2.heap.size,0,none⟩))) rfl (by kernel_rfl) (fun _ _ _ h=>h) (Or.inl ⟨by rfl,?_⟩) (KC.out) ?_
   ·intro w hSw;(try dsimp only at hSw);go_simp
   simp only [Act.put,sIb,sC0,sC1];refine zAA (i:=1) (oi:=⟨some 30,.move (.tmp 5),84, "table.go:39",#[],none⟩) (v:=(.pointer (some ⟨W2.heap.size,0,none⟩))) rfl (by kernel_rfl) (fun _ _ _ h=>h) (Or.inl ⟨by rfl,?_⟩) (KC.out) ?_
   ·intro w hSw;(try dsimp only at hSw);go_simp
   simp only [Act.put,sIb,sC0,sC1];refine zAA (i:=2) (oi:=⟨some 31,.nilCheck (.tmp 30),0, "table.go:39",#[⟨1,.data⟩],none⟩) (v:=(.pointer (some ⟨W2.heap.size,0,none⟩))) rfl (by kernel_rfl) (fun _ _ _ h=>h) (Or.inl ⟨by rfl,?_⟩) (KC.out) ?_
   ·intro w hSw;(try dsimp only at hSw);go_simp
   simp only [Act.put,sIb,sC0,sC1];refine zAA (i:=3) (oi:=⟨some 32,.fieldAddr 103 (.tmp 31) 1,0, "table.go:39",#[⟨2,.data⟩],none⟩) (v:=(.pointer (some ⟨W2.heap.size,3,none⟩))) rfl (by kernel_rfl) (fun _ _ _ h=>h) (Or.inl ⟨by rfl,?_⟩) (KC.out) ?_
   ·intro w hSw;(try dsimp only at hSw);go_simp
   simp only [Act.put,sIb,sC0,sC1];refine zAA (i:=4) (oi:=⟨some 33,.load 47 (.tmp 32),47, "table.go:39",#[⟨3,.data⟩],none⟩) (v:=(.slice ab i cb)) rfl (by kernel_rfl) (fun _ _ _ h=>h) (Or.inl ⟨by rfl,?_⟩) (KC.out) ?_
   ·intro w hSw;(try dsimp only at hSw);go_simp
   simp only [Act.put,sIb,sC0,sC1];refine zAA (i:=5) (oi:=⟨some 34,.fieldAddr 24 (.tmp 1) 1,0, "table.go:39",#[],none⟩) (v:=(.pointer (some ⟨w.heap.size,1,none⟩))) rfl (by kernel_rfl) (fun _ _ _ h=>h) (Or.inl ⟨by rfl,?_⟩) (KC.out) ?_
   ·intro w hSw;(try dsimp only at hSw);go_simp
   simp only [Act.put,sIb,sC0,sC1];refine zAA (i:=6) (oi:=⟨some 35,.load 3 (.tmp 34),3, "table.go:39",#[⟨5,.data⟩],none⟩) (v:=(.int .i64 (n:Int))) rfl (by kernel_rfl) (fun _ _ _ h=>h) (Or.inl ⟨by rfl,?_⟩) (KC.out) ?_
   ·intro w hSw;(try dsimp only at hSw);go_simp
   simp only [Act.put,sIb,sC0,sC1];refine zAA (i:=7) (oi:=⟨some 36,.move (.tmp 6),3, "table.go:39",#[],none⟩) (v:=(.int .i64 (i:Int))) rfl (by kernel_rfl) (fun _ _ _ h=>h) (Or.inl ⟨by rfl,?_⟩) (KC.out) ?_
   ·intro w hSw;(try dsimp only at hSw);go_simp
   simp only [Act.put,sIb,sC0,sC1];refine zAA (i:=8) (oi:=⟨some 37,.binOp .add 3 (.tmp 35) (.tmp 36) 3,3, "table.go:39",#[⟨6,.data⟩,⟨7,.data⟩],none⟩) (v:=(.int .i64 (ni:Int))) rfl (by kernel_rfl) (fun _ _ _ h=>h) (Or.inl ⟨by rfl,?_⟩) (KC.out) ?_
   ·intro w hSw;(try dsimp only at hSw);go_simp
   simp only [Act.put,sIb,sC0,sC1];refine zCA (i:=9) (o:=⟨some 38,.buildSlice 47 1 #[(0,.tmp 37)],47, "table.go:39",#[⟨8,.data⟩],none⟩) (by kernel_rfl) rfl (fun K hK=>?_);go_simp;obtain ⟨V42,hW⟩:∃V42,D41.alloc (.cells #[.int .i64 (ni:Int)] 3)=V42:=⟨_,rfl⟩
   obtain ⟨b,sz42⟩:=alo1 D41 (.cells #[.int .i64 (ni:Int)] 3);rw [hW] at b sz42;replace GB:=hid (zBA GB.out b);replace KC:=hid (KB.out _ GB.out);have CX:Hid (V42.cell? ⟨D41.heap.size,0,none⟩=some (.int .i64 (ni:Int))):=by unfold Hid;rw [←hW];exact (Cel.new D41 3 [.int .i64 (ni:Int)]).at (i:=0) rfl
   have IV2:=hid (IV.out.now GB.out);have BW2:=hid (zBA BW.out GB.out);have CT2:=hid (CT.out.step GB.out);rw [hW];clear hW b sz42;refine hK.out _ _ (fun _=>KC.out) ?_;clear hK
   try simp only [Act.put]
   refine zCA (i:=10) (o:=⟨some 39,.call { callee:=.builtin .append,args:=#[.tmp 33,.tmp 38],argTypes:=#[47,47] },47, "table.go:39",#[⟨4,.data⟩,⟨9,.data⟩],none⟩) (by kernel_rfl) rfl (fun K hK=>?_);refine step_append_ivs V42 rfl (.tmp 33) (.tmp 38) rfl W2.heap.size (.slice ab i cb) _ ni rfl IV2.out D41.heap.size rfl CX.out HL.out BW2.out.size ?_;intro g9 l9 cap9 w43 hl9 hI hg hb;have TG:Hid (Ty 3 V42 w43):=Ty.grown IV2.out hg.out;have CT3:=hid (CT2.out.ty13 TG.out (by decide));have BW3:Hid (Below W2.heap.size W2 w43):=zTF BW2.out BW2.out.size IV2.out hg.out;replace KC:=hid (⟨CT3.out.at (i:=3) rfl,cells14 IV2.out hg.out (p:=⟨w.heap.size,1,none⟩) (by have:=PM2.out.blk;exact this) BW2.out.size KC.out.2⟩:_∧_);have I3:=hI;clear hI hg hb hl9 CX IV2 BW2 CT2;refine hK.out _ _ (fun _=>KC.out) ?_;clear hK;refine zAA (i:=11) (oi:=⟨some 40,.nilCheck (.tmp 29),0, "table.go:39",#[⟨0,.data⟩,⟨0,.phase⟩,⟨1,.phase⟩,⟨2,.phase⟩,⟨3,.phase⟩,⟨4,.phase⟩,⟨5,.phase⟩,⟨6,.phase⟩,⟨7,.phase⟩,⟨8,.phase⟩,⟨9,.phase⟩,⟨10,.phase⟩],none⟩) (v:=(.pointer (some ⟨W2.heap.size,0,none⟩))) rfl (by kernel_rfl) (fun _ _ _ h=>h) (Or.inl ⟨by rfl,?_⟩) (KC.out) ?_
   ·intro w hSw;(try dsimp only at hSw);go_simp
   simp only [Act.put,sIb,sC0,sC1];refine zAA (i:=12) (oi:=⟨some 41,.fieldAddr 103 (.tmp 40) 1,0, "table.go:39",#[⟨11,.data⟩,⟨0,.phase⟩,⟨1,.phase⟩,⟨2,.phase⟩,⟨3,.phase⟩,⟨4,.phase⟩,⟨5,.phase⟩,⟨6,.phase⟩,⟨7,.phase⟩,⟨8,.phase⟩,⟨9,.phase⟩,⟨10,.phase⟩],none⟩) (v:=(.pointer (some ⟨W2.heap.size,3,none⟩))) rfl (by kernel_rfl) (fun _ _ _ h=>h) (Or.inl ⟨by rfl,?_⟩) (KC.out) ?_
   ·intro w hSw;(try dsimp only at hSw);go_simp
   simp only [Act.put,sIb,sC0,sC1];refine zCA (i:=13) (o:=⟨none,.store 47 (.tmp 41) (.tmp 39),0, "table.go:39",#[⟨12,.data⟩,⟨10,.data⟩,⟨10,.chain⟩,⟨0,.phase⟩,⟨1,.phase⟩,⟨2,.phase⟩,⟨3,.phase⟩,⟨4,.phase⟩,⟨5,.phase⟩,⟨6,.phase⟩,⟨7,.phase⟩,⟨8,.phase⟩,⟨9,.phase⟩,⟨10,.phase⟩],none⟩) (by kernel_rfl) rfl (fun K hK=>?_);have h0:=CT3.out.at (i:=3) rfl;have h1:=CT3.out.fz 3;go_simp;clear h0 h1;obtain ⟨V44,hW⟩:∃V44,(w43.setCell ⟨W2.heap.size,3,none⟩ (.slice (some ⟨g9,0,none⟩) l9 cap9))=V44:=⟨_,rfl⟩
   have HN1:Hid (TbH W2 m n mi (.slice (some ⟨ga,0,none⟩) ln ln) (.slice (some ⟨gg,0,none⟩) n n) (.bool nm) (.slice am lm cm) (m-(i+1)) (.int .i64 ((i+1:Nat):Int)) V44):=by
    unfold Hid;rw [←hW];refine ⟨i+1,_,rfl,by omega,rfl,CT3.out.set 3 _,?_,bset BW3.out (Nat.le_refl _)⟩;rw [List.range_succ,List.map_append,List.map_cons,List.map_nil,ENI.out];exact I3.out.keep fun b L _ e=>(Ty.set CT3.out).2 b _ _ _ e (by decide)
   rw [hW];clear hW;refine hK.out _ _ (fun h=>absurd h (by decide)) ?_;clear hK
   try simp only [Act.put]
   refine zFA (by kernel_rfl) ?_ _;clear GB KB KC CT3 BW3 I3 TG;go_wp2_with fail;go_roundg (m-(i+1))
   case rel=>exact HN1.out
   case measure=>exact HMM.out
  ·have hlt':¬(i:Int)<(m:Int):=by omega
   obtain rfl:i=m:=by omega
   obtain ⟨hcb,hrow⟩:=IV.out.row14 (by simp);have FIN:Hid (zbI w i n ((List.range i).map (n + ·)) (List.range n) (en n zs) 1 (min i n) KW (.returned (.pointer (some ⟨W2.heap.size,0,none⟩))) wr):=by
    by_cases hi0:0<i
    ·obtain ⟨gb,hab,hgb,rr,hrr⟩:=hrow hi0
     refine ⟨_,ga,gb,gg,rfl,SB.out,HGA.out,by have:=SB.out;omega,HGO.out,⟨⟨ab,cb,nm,am,lm,cm,by rw [HMI.out,←HLN.out];exact CT.out,(MO.out.more HK1.out).now BW.out,hcb,fun _=>⟨hab,rr,hrr⟩⟩,?_,?_,?_,by simp,by simp,hm64,hn64,by omega⟩,zBA G2.out BW.out⟩
     ·rw [zuI HZL.out];exact AR2.out.step BW.out
     ·rw [zbA (G:=fun t=>(t:Int)) fun t ht=>by simp [nf14,ht]];exact CO.out.step BW.out
     ·have:=CO.out.blk;omega
    ·refine ⟨_,ga,gg+1,gg,rfl,SB.out,HGA.out,by have:=HGO.out;omega,HGO.out,⟨⟨ab,cb,nm,am,lm,cm,by rw [HMI.out,←HLN.out];exact CT.out,(MO.out.more HK1.out).now BW.out,hcb,fun q=>absurd q hi0⟩,?_,?_,by omega,by simp,by simp,hm64,hn64,by omega⟩,zBA G2.out BW.out⟩
     ·rw [zuI HZL.out];exact AR2.out.step BW.out
     ·rw [zbA (G:=fun t=>(t:Int)) fun t ht=>by simp [nf14,ht]];exact CO.out.step BW.out
   clear CT IV BW HG hrow;go_wp2;go_ret;exact FIN.out
end Go.Proofs.YtjnokjgbeploaaaGreat
