/-
 QFreshToWj21: Fresh, Far, Cpy16, Tp18, Sm18, Wa18, Va16, Lw21, He21, Wa21, Wh21, Wj21, joined.
-/
import Derived.Test.YtjjpodnjljfheaaGreatQProdToByWord
import Derived.Laws.AppendOwn
import Derived.Laws.AppendOwnNone
import Derived.Test.YtjjpodnjljfheaaGreatQWordsToCarry
import Derived.Deep.RegionLaw
import Derived.Deep.RegionHeldLaw
import Derived.Test.YtjjpodnjljfheaaGreatQTurn9
import Derived.Test.YtjjpodnjljfheaaGreatQOf11ToTo18
import Derived.Test.YtjjpodnjljfheaaGreatQUnit9ToDz12
import Derived.Test.YtjjpodnjljfheaaGreatQChkN9ToLn11
import Derived.Deep.Cut
import Derived.Test.YtjjpodnjljfheaaGreatQDo11ToRowsI
import Derived.Test.YtjjpodnjljfheaaGreatQCols9ToMul9
import Derived.Test.YtjjpodnjljfheaaGreatQFil9ToRowsOf9
import Derived.Test.YtjjpodnjljfheaaGreatQHq18ToIv21
import Derived.Test.YtjjpodnjljfheaaGreatQLi18ToFo18
import Derived.Test.YtjjpodnjljfheaaGreatQFo21ToBs18
import Derived.Test.YtjjpodnjljfheaaGreatQFu21
import Derived.Test.YtjjpodnjljfheaaGreatQLx18ToMk12

set_option maxRecDepth 100000
set_option maxHeartbeats 6400000
set_option linter.unusedVariables false
set_option linter.unusedSimpArgs false
namespace Go.Proofs.YtjjpodnjljfheaaGreat
open Go.RowKit


instance (r c:Int) (l:Nat):Decidable (Snd r c l):=by unfold Snd;infer_instance






theorem fullNo21 {w:World} {r c:Int} {a:Option Addr} {l cap:Nat} (h:¬Snd r c l):Calls Tryz.prog 5 #[.agg #[.int .i64 r,.int .i64 c,.slice a l cap]] w fun e w'=>e=.returned (.tuple #[.agg #[.int .i64 0,.int .i64 0,.slice none 0 0,.int .i64 0,.int .i64 0,.slice none 0 0,.int .i64 0,.int .i64 0,.slice none 0 0],.int .i64 1])∧Below w.heap.size w w':=by
 obtain ⟨W0,hW⟩:∃W0,(w.alloc (.cells #[.int .i64 r,.int .i64 c,.slice a l cap] 24)).alloc (.cells #[.int .i64 0,.int .i64 0,.slice none 0 0,.int .i64 0,.int .i64 0,.slice none 0 0,.int .i64 0,.int .i64 0,.slice none 0 0] 27)=W0:=⟨_,rfl⟩
 obtain ⟨b0,sz0⟩:=zXA w (.cells #[.int .i64 r,.int .i64 c,.slice a l cap] 24) (.cells #[.int .i64 0,.int .i64 0,.slice none 0 0,.int .i64 0,.int .i64 0,.slice none 0 0,.int .i64 0,.int .i64 0,.slice none 0 0] 27);rw [hW] at b0 sz0;have dA:Cel W0 w.heap.size 24 [.int .i64 r,.int .i64 c,.slice a l cap]:=by rw [←hW];exact (Cel.new w _ _).step ((Below.refl _ _).alloc (Nat.le_refl _) _)
 have dR:Cel W0 (w.heap.size+1) 27 [.int .i64 0,.int .i64 0,.slice none 0 0,.int .i64 0,.int .i64 0,.slice none 0 0,.int .i64 0,.int .i64 0,.slice none 0 0]:=by
  rw [←hW];have:=Cel.new (w.alloc (.cells #[.int .i64 r,.int .i64 c,.slice a l cap] 24)) 27 [.int .i64 0,.int .i64 0,.slice none 0 0,.int .i64 0,.int .i64 0,.slice none 0 0,.int .i64 0,.int .i64 0,.slice none 0 0]
  simpa using this
 have HCK:=hid (check_no (w:=W0) (a:=a) (cap:=cap) h);have x0:=dA.at (i:=0) rfl;have x1:=dA.at (i:=1) rfl;have x2:=dA.at (i:=2) rfl;rw [←hW] at x0 x1 x2;have DR:=hid dR;have G0:=hid b0;have EW:=hid hW;clear b0 sz0 hW dA dR h;go_enter Tryz.func5,Tryz.ntmps5;go_wp2_with fail;rw [EW.out];refine HCK.out.mono ?_;rintro e w1 ⟨rfl,b⟩;have dR:=DR.out.step b;have G1:=hid (below_step G0.out b);have r0:=dR.at (i:=0) rfl;have f0:=dR.fz 0;have r1:=dR.at (i:=1) rfl;have f1:=dR.fz 1;have r2:=dR.at (i:=2) rfl;have f2:=dR.fz 2;have r3:=dR.at (i:=3) rfl;have f3:=dR.fz 3;have r4:=dR.at (i:=4) rfl;have f4:=dR.fz 4;have r5:=dR.at (i:=5) rfl;have f5:=dR.fz 5;have r6:=dR.at (i:=6) rfl;have f6:=dR.fz 6;have r7:=dR.at (i:=7) rfl;have f7:=dR.fz 7;have r8:=dR.at (i:=8) rfl;have f8:=dR.fz 8;have FIN:Hid (Below w.heap.size w (put9 w1 (w.heap.size+1) (.int .i64 0) (.int .i64 0) (.slice none 0 0) (.int .i64 0) (.int .i64 0) (.slice none 0 0) (.int .i64 0) (.int .i64 0) (.slice none 0 0))):=bset (bset (bset (bset (bset (bset (bset (bset (bset G1.out (by omega)) (by omega)) (by omega)) (by omega)) (by omega)) (by omega)) (by omega)) (by omega)) (by omega);have PF:=hid (put9_21 dR (.int .i64 0) (.int .i64 0) (.slice none 0 0) (.int .i64 0) (.int .i64 0) (.slice none 0 0) (.int .i64 0) (.int .i64 0) (.slice none 0 0));clear HCK b x0 x1 x2 EW DR G0 G1 dR;go_wp2;exact bodyPost_ret (zTH Tryz.results5 PF.out _ (by rfl) (by rfl)) rfl ⟨rfl,FIN.out⟩
theorem fullA21 {w:World} {v:Value} {m n k:Nat} {zs:List Int} (h:Mx w v m n zs k) (hk1:1≤k) (hk:k≤1048576):Calls Tryz.prog 5 #[v] w (ztI w m n (zvD n zs) (64*k+65)):=by
 obtain ⟨_,_,-,hm,hn⟩:=h.form;have hzl:zs.length=m*n:=by obtain ⟨_,_,_,_,_,h,_⟩:=h;exact h
 have hlt:=h.lt;have hp1:(1:Int)<pw k:=by
  obtain ⟨d,rfl⟩:∃d,k=d+1:=⟨k-1,by omega⟩
  rw [zSB];have hp:=zwA d;have:1*pw 1≤pw d*pw 1:=Int.mul_le_mul_of_nonneg_right (by omega) (by decide);have:(1:Int)<pw 1:=by decide
  omega
 have hTb:Tb18 m (n+m) (zvD n zs) (64*(64*(pw k-1).toNat) ^ 64):=tb21 hm (by omega) fun i c hi hc=>by
  unfold zvD
  split
  ·have hl:=zQE hi (show c<n by assumption)
   have e:en18 n zs i c=zs[i*n+c]'(by omega):=by unfold en18;simp [show i*n+c<zs.length by omega]
   have:=hlt _ (List.getElem_mem (l:=zs) (n:=i*n+c) (by omega));rw [e];omega
  ·unfold dlz
   split <;> simp <;> omega
 have hkt:=zOJ (Y:=(pw k-1).toNat) (k:=k) (by omega);exact full21 (kw:=128*(64*k+65+1)+(64*k+65)) h hTb (by omega) (zxE hkt 128) (by omega) (by omega) hkt
theorem zhF {w:World} {a:Option Addr} {l c m n k:Nat} {x y:Int} {zs:List Int} (h:Mc w (.agg #[.int .i64 x,.int .i64 y,.slice a l c]) m n zs k):l=m*n:=by
 obtain ⟨at_,ps,e,p1,p2,p3,_⟩:=h;obtain ⟨a',c',e',_⟩:=p1.form;subst e';simp [matv] at e;rw [e.2.2.2.1,p2.1,p3]
theorem zPJ {n:Int} (h0:0<n) (h1:n≤18446744073709551615) (w:World):Calls Tryz.prog 17 #[.int .u64 n] w (zmA w n 1):=by
 obtain ⟨WX,hWX⟩:∃WX,(w.alloc (duo (.bool false) (.slice (some ⟨w.heap.size+1,0,none⟩) 1 1))).alloc (.cells #[.int .u64 n] 49)=WX:=⟨_,rfl⟩
 obtain ⟨b0,sz0⟩:=zXA w (duo (.bool false) (.slice (some ⟨w.heap.size+1,0,none⟩) 1 1)) (.cells #[.int .u64 n] 49);rw [hWX] at b0 sz0;have dX:Duo WX w.heap.size (.bool false) (.slice (some ⟨w.heap.size+1,0,none⟩) 1 1):=by rw [←hWX];exact zCA (zFA rfl) _
 have rX:Row WX (w.heap.size+1) [.int .u64 n]:=by
  have:=heap_alloc_new (w.alloc (duo (.bool false) (.slice (some ⟨w.heap.size+1,0,none⟩) 1 1))) (.cells #[.int .u64 n] 49);rw [hWX] at this
  simpa [Row] using this
 have wX:WF [n]:=by
  have:=zDE w n ⟨Int.le_of_lt h0,h1⟩;exact this.1
 have eV:iv false [n]=n:=by simp [iv,val]
 have FIN:Hid (Zm w.heap.size WX (.agg #[.bool false,.slice (some ⟨w.heap.size+1,0,none⟩) 1 1]) n 1) :=
  ⟨false,[n],_,_,rfl,⟨wX,.inr ⟨w.heap.size+1,[],1,by omega,by simp,by simp,.inl rfl,rfl,by simpa [ws] using rX⟩⟩,⟨wX,by simp [wid];omega⟩,fun e=>by simp at e,eV,by simp⟩
 have EW:=hid hWX;have DX:=hid dX;have BX:=hid b0;clear rX wX dX eV b0 hWX;go_enter Tryz.func17,Tryz.ntmps17;go_wp2;rw [EW.out];exact bodyPost_ret (zdB Tryz.results17 DX.out _ (by rfl)) rfl ⟨_,rfl,FIN.out,BX.out⟩
theorem col_form18:Hb18 2 1 2 1 id (fun _=>0) (en18 1 [2,0]) (en18 1 [4,6]):=by
 have x0:en18 1 [2,0] 0 0=2:=rfl;have x1:en18 1 [2,0] 1 0=0:=rfl;have a0:en18 1 [4,6] 0 0=4:=rfl;have a1:en18 1 [4,6] 1 0=6:=rfl;have c1:∀i:Nat,i<1→i=0:=fun i hi=>by omega
 have c2:∀i:Nat,i<2→i=0∨i=1:=fun i hi=>by omega
 refine ⟨⟨fun a b h1 h2=>by omega,fun a ha=>by show 0<1;decide,fun a ha=>by simp only [id];omega,fun a b h1 h2 _=>by omega,fun a j ha hj=>absurd hj (Nat.not_lt_zero _),fun a ha=>?_,fun t ht hn j hj=>?_⟩,fun a b h1 h2 h3=>by omega,fun v=>⟨fun k=>k.trans fun t ht=>?_,fun k=>k.trans fun t ht=>?_⟩,fun t ht=>?_⟩
 ·obtain rfl:=c1 a ha
  show 0<en18 1 [2,0] 0 0;rw [x0];decide
 ·obtain rfl:=c1 j hj
  rcases c2 t ht with rfl | rfl
  ·exact absurd rfl (hn 0 (by omega))
  ·exact x1
 ·have r0:=Cm19.row (n:=1) (en18 1 [4,6]) (show 0<2 by omega)
  have r1:=Cm19.row (n:=1) (en18 1 [4,6]) (show 1<2 by omega);rcases c2 t ht with rfl | rfl
  ·exact ((r0.mul (-1)).add r1).congr fun j hj=>by obtain rfl:=c1 j hj;simp [x0,a0,a1]
  ·exact (r0.mul 0).congr fun j hj=>by obtain rfl:=c1 j hj;simp [x1,a0]
 ·have r0:=Cm19.row (n:=1) (en18 1 [2,0]) (show 0<2 by omega)
  rcases c2 t ht with rfl | rfl
  ·exact (r0.mul 2).congr fun j hj=>by obtain rfl:=c1 j hj;simp [x0,a0]
  ·exact (r0.mul 3).congr fun j hj=>by obtain rfl:=c1 j hj;simp [x0,a1]
 ·funext c
  unfold en18;rw [List.getD_eq_getElem?_getD,List.getD_eq_getElem?_getD,List.getElem?_eq_none (by simp;omega),List.getElem?_eq_none (by simp;omega)]
theorem zOH {V:World} {g:Nat} {n0 n1:Bool} {a0 a1:Option Addr} {l0 l1 q0 q1:Nat} {z0 z1:Int} {k:Nat} (d:Cel V g 47 [.bool n0,.slice a0 l0 q0,.bool n1,.slice a1 l1 q1])
  (h0:Zc V (.agg #[.bool n0,.slice a0 l0 q0]) z0 k) (h1:Zc V (.agg #[.bool n1,.slice a1 l1 q1]) z1 k):Mc V (.agg #[.int .i64 2,.int .i64 1,.slice (some ⟨g,0,none⟩) 2 2]) 2 1 [z0,z1] k:=by
 have AZ:Arr V g [(.bool n0,.slice a0 l0 q0),(.bool n1,.slice a1 l1 q1)]:=⟨d,fun q hq=>by simp at hq;rcases hq with rfl | rfl <;> exact ⟨_,_,_,_,rfl⟩⟩
 refine ⟨_,_,rfl,AZ.prs (B:=0) (Nat.zero_le _) (by simp) (cap:=2) (by simp),⟨rfl,fun t q z hq hz=>?_⟩,rfl,by omega,by omega⟩
 match t,hq,hz with
 | 0,hq,hz=>simp at hq hz;subst hq;subst hz;exact h0
 | 1,hq,hz=>simp at hq hz;subst hq;subst hz;exact h1
theorem zxG (w:World):Calls Tryz.prog 4 #[] w fun e w'=>e=.returned (.bool true)∧Below w.heap.size w w':=by
 go_enter Tryz.func4,Tryz.ntmps4;go_wp2_with fail;refine (zPJ (n:=4) (by decide) (by decide) _).mono ?_;rintro e w1 ⟨r4,rfl,m4,b1⟩;have Z4:=hid (m4.zi);have C4:=hid m4.zc;obtain ⟨n4,y4,a4,c4,rfl⟩:=m4.parts;have B1:=hid b1;clear m4 b1;go_wp2_with fail;refine (zPJ (n:=6) (by decide) (by decide) _).mono ?_;rintro e w2 ⟨r6,rfl,m6,b2⟩;replace C4:=hid (C4.out.now b2);have C6:=hid m6.zc;obtain ⟨n6,y6,a6,c6,rfl⟩:=m6.parts;obtain ⟨V0,hV0⟩:∃V,w2.alloc (.cells #[.bool n4,.slice a4 y4.length c4,.bool n6,.slice a6 y6.length c6] 47)=V:=⟨_,rfl⟩
 obtain ⟨bv0,szv0⟩:=alo1 w2 (.cells #[.bool n4,.slice a4 y4.length c4,.bool n6,.slice a6 y6.length c6] 47);rw [hV0] at bv0 szv0;have d0:Cel V0 w2.heap.size 47 [.bool n4,.slice a4 y4.length c4,.bool n6,.slice a6 y6.length c6]:=by rw [←hV0];exact Cel.new w2 _ _
 have hm:=(zOH d0 (C4.out.now bv0) (C6.out.now bv0)).mx;replace B1:=hid (below_step (below_step B1.out b2) bv0);obtain ⟨T,hTb,hTk⟩:=zqH (m:=2) (n:=1) (zs:=[4,6]) (k:=1) (by omega) rfl (by intro z hz;simp at hz;rcases hz with rfl | rfl <;> decide) (by omega);have HFM:=hid (zDJ (kw:=128*(129+1)+129) (kt:=129) hm hTb (by omega) (zxE hTk 128) (by omega) (by omega) hTk);have E0:=hid hV0;clear hm hTb hTk Z4 C4 C6 m6 b2 bv0 szv0 d0 hV0;go_wp2_with fail;rw [E0.out];refine HFM.out.mono ?_;rintro e w3 ⟨v,r,γ,X,rfl,hq,hb,b3⟩;have ez:zG18 2 1 X=[2,0]:=hb.same col_form18 (fun v=>Iff.rfl);rw [ez] at hq;obtain ⟨a2,c2,rfl,-,-⟩:=hq.mx.form;dsimp only [matv] at hq ⊢;obtain ⟨V,hV⟩:∃V,w3.alloc (.cells #[.int .i64 (2:Nat),.int .i64 (1:Nat),.slice a2 (2*1) c2] 24)=V:=⟨_,rfl⟩
 obtain ⟨bv,szv⟩:=alo1 w3 (.cells #[.int .i64 (2:Nat),.int .i64 (1:Nat),.slice a2 (2*1) c2] 24);rw [hV] at bv szv;have dV:Cel V w3.heap.size 24 [.int .i64 (2:Nat),.int .i64 (1:Nat),.slice a2 (2*1) c2]:=by rw [←hV];exact Cel.new w3 _ _
 have HQ:=hid (hq.now bv);have BV:=hid (below_step B1.out (below_step b3 bv));have x0:V.cell? ⟨w3.heap.size,0,none⟩=some (.int .i64 2):=dV.at (i:=0) rfl;have x1:V.cell? ⟨w3.heap.size,1,none⟩=some (.int .i64 1):=dV.at (i:=1) rfl;have x2:V.cell? ⟨w3.heap.size,2,none⟩=some (.slice a2 2 c2):=dV.at (i:=2) rfl;have EV:=hid hV;obtain ⟨bk,hbk⟩:∃bk,w3.heap.size=bk:=⟨_,rfl⟩
 rw [hbk] at x0 x1 x2;have EBK:=hid hbk;clear HFM hq hb b3 bv szv hV dV ez B1 hbk E0;go_wp2_with fail;rw [show w3.alloc (.cells #[.int .i64 2,.int .i64 1,.slice a2 2 c2] 24)=V from EV.out,EBK.out];have KB:Hid (∀w',Below V.heap.size V w'→w'.cell? ⟨bk,0,none⟩=some (.int .i64 2)∧w'.cell? ⟨bk,1,none⟩=some (.int .i64 1)∧w'.cell? ⟨bk,2,none⟩=some (.slice a2 2 c2)):=fun w' h=>⟨cnow h x0,cnow h x1,cnow h x2⟩
 refine zEA (fun w'=>w'.cell? ⟨bk,0,none⟩=some (.int .i64 2)∧w'.cell? ⟨bk,1,none⟩=some (.int .i64 1)∧w'.cell? ⟨bk,2,none⟩=some (.slice a2 2 c2)) 10 (by kernel_rfl) ?_;obtain ⟨D1,hD⟩:∃D1,V.drew=D1:=⟨_,rfl⟩
 have GB:Hid (Below V.heap.size V D1):=by unfold Hid;rw [←hD];exact (Below.refl _ _).drew
 rw [hD];clear hD;refine zHA [(0,(.int .i64 0)),(1,(.bool true)),(2,(.bool true)),(3,(.agg #[.int .i64 2,.int .i64 1,.slice a2 2 c2])),(5,(.agg #[.bool false,.slice none 0 0]))] 5 ?_ (KB.out _ GB.out) ?_
 ·simp only [zUA,gA9,g09,g19,Act.put,sI9,s09,s19]
  (repeat' (first | exact trivial | refine And.intro (Or.inl ⟨by rfl,?_⟩) ?_)) <;> (intro w hSw;(try dsimp only at hSw);go_simp)
 simp only [actV,gA9,g09,g19,Act.put,sI9,s09,s19];refine zAA (i:=4) (o:=⟨some 15,.call { callee:=.value (.func 17),args:=#[.const (.int .u64 2)],argTypes:=#[49] },47, "law.go:147",#[⟨2,.chain⟩,⟨2,.guard⟩],some (2,true)⟩) (by kernel_rfl) rfl (fun K hK=>?_);go_simp;go_at_call 17;refine (zPJ (n:=2) (by decide) (by decide) _).mono ?_;rintro e w2 ⟨r9,rfl,m9,b⟩;have lz2:=(show Below _ _ _ from b).size;replace GB:=hid (below_step GB.out b);have Z2:=hid m9.zc;obtain ⟨n9,y9,a9,c9,rfl⟩:=m9.parts;clear m9;clear b;refine hK.out _ _ (fun _=>KB.out _ GB.out) ?_;clear hK;refine zAA (i:=6) (o:=⟨some 17,.buildSlice 22 2 #[(0,.tmp 15),(1,.tmp 16)],22, "law.go:147",#[⟨4,.data⟩,⟨5,.data⟩,⟨2,.guard⟩],some (2,true)⟩) (by kernel_rfl) rfl (fun K hK=>?_);go_simp;obtain ⟨V3,hW⟩:∃V,w2.alloc (.cells #[.bool n9,.slice a9 y9.length c9,.bool false,.slice none 0 0] 47)=V:=⟨_,rfl⟩
 obtain ⟨b,sz3⟩:=alo1 w2 (.cells #[.bool n9,.slice a9 y9.length c9,.bool false,.slice none 0 0] 47);rw [hW] at b sz3;replace GB:=hid (below_step GB.out b);have dL:Cel V3 w2.heap.size 47 [.bool n9,.slice a9 y9.length c9,.bool false,.slice none 0 0]:=by rw [←hW];exact Cel.new w2 _ _
 have ML:=hid (zOH dL (Z2.out.now b) (zwF V3 1).zc);rw [hW];clear hW b dL Z2 sz3;refine hK.out _ _ (fun _=>KB.out _ GB.out) ?_;clear hK
 try simp only [Act.put]
 refine zHA [(7,(.agg #[.int .i64 2,.int .i64 1,.slice (some ⟨w2.heap.size,0,none⟩) 2 2]))] 1 ?_ (KB.out _ GB.out) ?_
 ·simp only [zUA,gA9,g09,g19,Act.put,sI9,s09,s19]
  (repeat' (first | exact trivial | refine And.intro (Or.inl ⟨by rfl,?_⟩) ?_)) <;> (intro w hSw;(try dsimp only at hSw);go_simp)
 simp only [actV,gA9,g09,g19,Act.put,sI9,s09,s19];refine zAA (i:=8) (o:=⟨some 19,.call { callee:=.value (.func 11),args:=#[.tmp 14,.tmp 18],argTypes:=#[24,24] },4, "law.go:147",#[⟨3,.data⟩,⟨7,.data⟩,⟨4,.chain⟩,⟨2,.guard⟩],some (2,true)⟩) (by kernel_rfl) rfl (fun K hK=>?_);go_simp;go_at_call 11;refine (zNA (HQ.out.now GB.out) ML.out rfl).mono ?_;rintro e w4 ⟨rfl,b⟩;have lz4:=(show Below _ _ _ from b).size;replace GB:=hid (below_step GB.out b);have FF:=hid (below_step BV.out GB.out);clear b;refine hK.out _ _ (fun _=>KB.out _ GB.out) ?_;clear hK;refine zHA [(9,(.bool true))] 1 ?_ (KB.out _ GB.out) ?_
 ·simp only [zUA,gA9,g09,g19,Act.put,sI9,s09,s19]
  (repeat' (first | exact trivial | refine And.intro (Or.inl ⟨by rfl,?_⟩) ?_)) <;> (intro w hSw;(try dsimp only at hSw);go_simp)
 simp only [actV,gA9,g09,g19,Act.put,sI9,s09,s19];refine zAA (i:=10) (o:=⟨some 0,.assign (.tmp 20),4, "law.go:147",#[⟨9,.data⟩,⟨8,.chain⟩,⟨0,.phase⟩,⟨1,.phase⟩,⟨2,.phase⟩,⟨3,.phase⟩,⟨4,.phase⟩,⟨5,.phase⟩,⟨6,.phase⟩,⟨7,.phase⟩,⟨8,.phase⟩,⟨9,.phase⟩],none⟩) (by kernel_rfl) rfl (fun K hK=>?_);go_simp;refine hK.out _ _ (fun h=>absurd h (by decide)) ?_;clear hK
 try simp only [Act.put]
 refine zDA (by kernel_rfl) ?_ _;clear GB KB HQ ML BV x0 x1 x2;go_wp2;go_ret;exact ⟨rfl,FF.out⟩
end Go.Proofs.YtjjpodnjljfheaaGreat
