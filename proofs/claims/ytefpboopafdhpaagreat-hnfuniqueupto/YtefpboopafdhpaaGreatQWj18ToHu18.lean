/-
 QWj18ToHu18: Wj18, Fresh, Far, Cpy16, Tp18, Hu18, joined.
-/
import Derived.Test.YtefpboopafdhpaaGreatQHw18ToLz18
import Derived.Test.YtefpboopafdhpaaGreatQFo18
import Derived.Test.YtefpboopafdhpaaGreatQRm12ToLa18
import Derived.Test.YtefpboopafdhpaaGreatQLx18ToLp18
import Derived.Test.YtefpboopafdhpaaGreatQMadeToByWord
import Derived.Laws.AppendOwn
import Derived.Laws.AppendOwnNone
import Derived.Test.YtefpboopafdhpaaGreatQWordsToCarry
import Derived.Deep.RegionLaw
import Derived.Deep.RegionHeldLaw
import Derived.Test.YtefpboopafdhpaaGreatQLm6ToLeastA9
import Derived.Test.YtefpboopafdhpaaGreatQCat9ToPr12
import Derived.Deep.Cut
import Derived.Test.YtefpboopafdhpaaGreatQMw18

set_option maxRecDepth 100000
set_option maxHeartbeats 6400000
set_option linter.unusedVariables false
set_option linter.unusedSimpArgs false
namespace Go.Proofs.YtefpboopafdhpaaGreat
open Go.RowKit
theorem zCI {n:Int} (h0:0<n) (h1:n≤18446744073709551615) (w:World):Calls Tryz.prog 12 #[.int .u64 n] w (zeA w n 1):=by
 obtain ⟨WX,hWX⟩:∃WX,(w.alloc (duo (.bool false) (.slice (some ⟨w.heap.size+1,0,none⟩) 1 1))).alloc (.cells #[.int .u64 n] 43)=WX:=⟨_,rfl⟩
 obtain ⟨b0,sz0⟩:=zSA w (duo (.bool false) (.slice (some ⟨w.heap.size+1,0,none⟩) 1 1)) (.cells #[.int .u64 n] 43);rw [hWX] at b0 sz0;have dX:Duo WX w.heap.size (.bool false) (.slice (some ⟨w.heap.size+1,0,none⟩) 1 1):=by rw [←hWX];exact zCA (zEA rfl) _
 have rX:Row WX (w.heap.size+1) [.int .u64 n]:=by
  have:=heap_alloc_new (w.alloc (duo (.bool false) (.slice (some ⟨w.heap.size+1,0,none⟩) 1 1))) (.cells #[.int .u64 n] 43);rw [hWX] at this
  simpa [Row] using this
 have wX:WF [n]:=by
  have:=zcE w n ⟨Int.le_of_lt h0,h1⟩;exact this.1
 have eV:iv false [n]=n:=by simp [iv,val]
 have FIN:Hid (Zm w.heap.size WX (.agg #[.bool false,.slice (some ⟨w.heap.size+1,0,none⟩) 1 1]) n 1) :=
  ⟨false,[n],_,_,rfl,⟨wX,.inr ⟨w.heap.size+1,[],1,by omega,by simp,by simp,.inl rfl,rfl,by simpa [ws] using rX⟩⟩,⟨wX,by simp [wid];omega⟩,fun e=>by simp at e,eV,by simp⟩
 have EW:=hid hWX;have DX:=hid dX;have BX:=hid b0;clear rX wX dX eV b0 hWX;go_enter Tryz.func12,Tryz.ntmps12;go_wp2;rw [EW.out];exact bodyPost_ret (zHB Tryz.results12 DX.out _ (by rfl)) rfl ⟨_,rfl,FIN.out,BX.out⟩
theorem col_form18:Hb18 2 1 2 1 id (fun _=>0) (en18 1 [2,0]) (en18 1 [4,6]):=by
 have x0:en18 1 [2,0] 0 0=2:=rfl;have x1:en18 1 [2,0] 1 0=0:=rfl;have a0:en18 1 [4,6] 0 0=4:=rfl;have a1:en18 1 [4,6] 1 0=6:=rfl;have c1:∀i:Nat,i<1→i=0:=fun i hi=>by omega
 have c2:∀i:Nat,i<2→i=0∨i=1:=fun i hi=>by omega
 refine ⟨⟨fun a b h1 h2=>by omega,fun a ha=>by show 0<1;decide,fun a ha=>by simp only [id];omega,fun a b h1 h2 _=>by omega,fun a j ha hj=>absurd hj (Nat.not_lt_zero _),fun a ha=>?_,fun t ht hn j hj=>?_⟩,fun a b h1 h2 h3=>by omega,fun v=>⟨fun k=>k.trans fun t ht=>?_,fun k=>k.trans fun t ht=>?_⟩,fun t ht=>?_⟩
 ·obtain rfl:=c1 a ha
  show 0<en18 1 [2,0] 0 0;rw [x0];decide
 ·obtain rfl:=c1 j hj
  rcases c2 t ht with rfl | rfl
  ·exact absurd rfl (hn 0 (by omega))
  ·exact x1
 ·have r0:=Cm19.row (n:=1) (en18 1 [4,6]) (show 0<2 by omega)
  have r1:=Cm19.row (n:=1) (en18 1 [4,6]) (show 1<2 by omega);rcases c2 t ht with rfl | rfl
  ·exact ((r0.mul (-1)).add r1).congr fun j hj=>by obtain rfl:=c1 j hj;simp [x0,a0,a1]
  ·exact (r0.mul 0).congr fun j hj=>by obtain rfl:=c1 j hj;simp [x1,a0]
 ·have r0:=Cm19.row (n:=1) (en18 1 [2,0]) (show 0<2 by omega)
  rcases c2 t ht with rfl | rfl
  ·exact (r0.mul 2).congr fun j hj=>by obtain rfl:=c1 j hj;simp [x0,a0]
  ·exact (r0.mul 3).congr fun j hj=>by obtain rfl:=c1 j hj;simp [x0,a1]
 ·funext c
  unfold en18;rw [List.getD_eq_getElem?_getD,List.getD_eq_getElem?_getD,List.getElem?_eq_none (by simp;omega),List.getElem?_eq_none (by simp;omega)]
theorem zJG {V:World} {g:Nat} {n0 n1:Bool} {a0 a1:Option Addr} {l0 l1 q0 q1:Nat} {z0 z1:Int} {k:Nat} (d:Cel V g 41 [.bool n0,.slice a0 l0 q0,.bool n1,.slice a1 l1 q1])
  (h0:Zc V (.agg #[.bool n0,.slice a0 l0 q0]) z0 k) (h1:Zc V (.agg #[.bool n1,.slice a1 l1 q1]) z1 k):Mc V (.agg #[.int .i64 2,.int .i64 1,.slice (some ⟨g,0,none⟩) 2 2]) 2 1 [z0,z1] k:=by
 have AZ:Arr V g [(.bool n0,.slice a0 l0 q0),(.bool n1,.slice a1 l1 q1)]:=⟨d,fun q hq=>by simp at hq;rcases hq with rfl | rfl <;> exact ⟨_,_,_,_,rfl⟩⟩
 refine ⟨_,_,rfl,AZ.prs (B:=0) (Nat.zero_le _) (by simp) (cap:=2) (by simp),⟨rfl,fun t q z hq hz=>?_⟩,rfl,by omega,by omega⟩
 match t,hq,hz with
 | 0,hq,hz=>simp at hq hz;subst hq;subst hz;exact h0
 | 1,hq,hz=>simp at hq hz;subst hq;subst hz;exact h1
theorem zxF (w:World):Calls Tryz.prog 4 #[] w fun e w'=>e=.returned (.bool true)∧Below w.heap.size w w':=by
 go_enter Tryz.func4,Tryz.ntmps4;go_wp2_with fail;refine (zCI (n:=4) (by decide) (by decide) _).mono ?_;rintro e w1 ⟨r4,rfl,m4,b1⟩;have Z4:=hid (m4.zi);have C4:=hid m4.zc;obtain ⟨n4,y4,a4,c4,rfl⟩:=m4.parts;have B1:=hid b1;clear m4 b1;go_wp2_with fail;refine (zCI (n:=6) (by decide) (by decide) _).mono ?_;rintro e w2 ⟨r6,rfl,m6,b2⟩;replace C4:=hid (C4.out.now b2);have C6:=hid m6.zc;obtain ⟨n6,y6,a6,c6,rfl⟩:=m6.parts;obtain ⟨V0,hV0⟩:∃V,w2.alloc (.cells #[.bool n4,.slice a4 y4.length c4,.bool n6,.slice a6 y6.length c6] 41)=V:=⟨_,rfl⟩
 obtain ⟨bv0,szv0⟩:=alo1 w2 (.cells #[.bool n4,.slice a4 y4.length c4,.bool n6,.slice a6 y6.length c6] 41);rw [hV0] at bv0 szv0;have d0:Cel V0 w2.heap.size 41 [.bool n4,.slice a4 y4.length c4,.bool n6,.slice a6 y6.length c6]:=by rw [←hV0];exact Cel.new w2 _ _
 have hm:=(zJG d0 (C4.out.now bv0) (C6.out.now bv0)).mx;replace B1:=hid (below_step (below_step B1.out b2) bv0);obtain ⟨T,hTb,hTk⟩:=zhF (m:=2) (n:=1) (zs:=[4,6]) (k:=1) (by omega) rfl (by intro z hz;simp at hz;rcases hz with rfl | rfl <;> decide) (by omega);have HFM:=hid (zqH (kw:=128*(129+1)+129) (kt:=129) hm hTb (by omega) (zrF hTk 128) (by omega) (by omega) hTk);have E0:=hid hV0;clear hm hTb hTk Z4 C4 C6 m6 b2 bv0 szv0 d0 hV0;go_wp2_with fail;rw [E0.out];refine HFM.out.mono ?_;rintro e w3 ⟨v,r,γ,X,rfl,hq,hb,b3⟩;have ez:zG18 2 1 X=[2,0]:=hb.same col_form18 (fun v=>Iff.rfl);rw [ez] at hq;obtain ⟨a2,c2,rfl,-,-⟩:=hq.mx.form;dsimp only [matv] at hq ⊢;obtain ⟨V,hV⟩:∃V,w3.alloc (.cells #[.int .i64 (2:Nat),.int .i64 (1:Nat),.slice a2 (2*1) c2] 24)=V:=⟨_,rfl⟩
 obtain ⟨bv,szv⟩:=alo1 w3 (.cells #[.int .i64 (2:Nat),.int .i64 (1:Nat),.slice a2 (2*1) c2] 24);rw [hV] at bv szv;have dV:Cel V w3.heap.size 24 [.int .i64 (2:Nat),.int .i64 (1:Nat),.slice a2 (2*1) c2]:=by rw [←hV];exact Cel.new w3 _ _
 have HQ:=hid (hq.now bv);have BV:=hid (below_step B1.out (below_step b3 bv));have x0:V.cell? ⟨w3.heap.size,0,none⟩=some (.int .i64 2):=dV.at (i:=0) rfl;have x1:V.cell? ⟨w3.heap.size,1,none⟩=some (.int .i64 1):=dV.at (i:=1) rfl;have x2:V.cell? ⟨w3.heap.size,2,none⟩=some (.slice a2 2 c2):=dV.at (i:=2) rfl;have EV:=hid hV;obtain ⟨bk,hbk⟩:∃bk,w3.heap.size=bk:=⟨_,rfl⟩
 rw [hbk] at x0 x1 x2;have EBK:=hid hbk;clear HFM hq hb b3 bv szv hV dV ez B1 hbk E0;go_wp2_with fail;rw [show w3.alloc (.cells #[.int .i64 2,.int .i64 1,.slice a2 2 c2] 24)=V from EV.out,EBK.out];have KB:Hid (∀w',Below V.heap.size V w'→w'.cell? ⟨bk,0,none⟩=some (.int .i64 2)∧w'.cell? ⟨bk,1,none⟩=some (.int .i64 1)∧w'.cell? ⟨bk,2,none⟩=some (.slice a2 2 c2)):=fun w' h=>⟨cnow h x0,cnow h x1,cnow h x2⟩
 refine zFA (fun w'=>w'.cell? ⟨bk,0,none⟩=some (.int .i64 2)∧w'.cell? ⟨bk,1,none⟩=some (.int .i64 1)∧w'.cell? ⟨bk,2,none⟩=some (.slice a2 2 c2)) 10 (by kernel_rfl) ?_;obtain ⟨D1,hD⟩:∃D1,V.drew=D1:=⟨_,rfl⟩
 have GB:Hid (Below V.heap.size V D1):=by unfold Hid;rw [←hD];exact (Below.refl _ _).drew
 rw [hD];clear hD;refine zIA [(0,(.int .i64 0)),(1,(.bool true)),(2,(.bool true)),(3,(.agg #[.int .i64 2,.int .i64 1,.slice a2 2 c2])),(5,(.agg #[.bool false,.slice none 0 0]))] 5 ?_ (KB.out _ GB.out) ?_
 ·simp only [zVA,gA9,g09,g19,Act.put,sI9,s09,s19]
  (repeat' (first | exact trivial | refine And.intro (Or.inl ⟨by rfl,?_⟩) ?_)) <;> (intro w hSw;(try dsimp only at hSw);go_simp)
 simp only [actV,gA9,g09,g19,Act.put,sI9,s09,s19];refine zAA (i:=4) (o:=⟨some 15,.call { callee:=.value (.func 12),args:=#[.const (.int .u64 2)],argTypes:=#[43] },41, "law.go:147",#[⟨2,.chain⟩,⟨2,.guard⟩],some (2,true)⟩) (by kernel_rfl) rfl (fun K hK=>?_);go_simp;go_at_call 12;refine (zCI (n:=2) (by decide) (by decide) _).mono ?_;rintro e w2 ⟨r9,rfl,m9,b⟩;have lz2:=(show Below _ _ _ from b).size;replace GB:=hid (below_step GB.out b);have Z2:=hid m9.zc;obtain ⟨n9,y9,a9,c9,rfl⟩:=m9.parts;clear m9;clear b;refine hK.out _ _ (fun _=>KB.out _ GB.out) ?_;clear hK;refine zAA (i:=6) (o:=⟨some 17,.buildSlice 22 2 #[(0,.tmp 15),(1,.tmp 16)],22, "law.go:147",#[⟨4,.data⟩,⟨5,.data⟩,⟨2,.guard⟩],some (2,true)⟩) (by kernel_rfl) rfl (fun K hK=>?_);go_simp;obtain ⟨V3,hW⟩:∃V,w2.alloc (.cells #[.bool n9,.slice a9 y9.length c9,.bool false,.slice none 0 0] 41)=V:=⟨_,rfl⟩
 obtain ⟨b,sz3⟩:=alo1 w2 (.cells #[.bool n9,.slice a9 y9.length c9,.bool false,.slice none 0 0] 41);rw [hW] at b sz3;replace GB:=hid (below_step GB.out b);have dL:Cel V3 w2.heap.size 41 [.bool n9,.slice a9 y9.length c9,.bool false,.slice none 0 0]:=by rw [←hW];exact Cel.new w2 _ _
 have ML:=hid (zJG dL (Z2.out.now b) (zBF V3 1).zc);rw [hW];clear hW b dL Z2 sz3;refine hK.out _ _ (fun _=>KB.out _ GB.out) ?_;clear hK
 try simp only [Act.put]
 refine zIA [(7,(.agg #[.int .i64 2,.int .i64 1,.slice (some ⟨w2.heap.size,0,none⟩) 2 2]))] 1 ?_ (KB.out _ GB.out) ?_
 ·simp only [zVA,gA9,g09,g19,Act.put,sI9,s09,s19]
  (repeat' (first | exact trivial | refine And.intro (Or.inl ⟨by rfl,?_⟩) ?_)) <;> (intro w hSw;(try dsimp only at hSw);go_simp)
 simp only [actV,gA9,g09,g19,Act.put,sI9,s09,s19];refine zAA (i:=8) (o:=⟨some 19,.call { callee:=.value (.func 8),args:=#[.tmp 14,.tmp 18],argTypes:=#[24,24] },4, "law.go:147",#[⟨3,.data⟩,⟨7,.data⟩,⟨4,.chain⟩,⟨2,.guard⟩],some (2,true)⟩) (by kernel_rfl) rfl (fun K hK=>?_);go_simp;go_at_call 8;refine (zJB (HQ.out.now GB.out) ML.out rfl).mono ?_;rintro e w4 ⟨rfl,b⟩;have lz4:=(show Below _ _ _ from b).size;replace GB:=hid (below_step GB.out b);have FF:=hid (below_step BV.out GB.out);clear b;refine hK.out _ _ (fun _=>KB.out _ GB.out) ?_;clear hK;refine zIA [(9,(.bool true))] 1 ?_ (KB.out _ GB.out) ?_
 ·simp only [zVA,gA9,g09,g19,Act.put,sI9,s09,s19]
  (repeat' (first | exact trivial | refine And.intro (Or.inl ⟨by rfl,?_⟩) ?_)) <;> (intro w hSw;(try dsimp only at hSw);go_simp)
 simp only [actV,gA9,g09,g19,Act.put,sI9,s09,s19];refine zAA (i:=10) (o:=⟨some 0,.assign (.tmp 20),4, "law.go:147",#[⟨9,.data⟩,⟨8,.chain⟩,⟨0,.phase⟩,⟨1,.phase⟩,⟨2,.phase⟩,⟨3,.phase⟩,⟨4,.phase⟩,⟨5,.phase⟩,⟨6,.phase⟩,⟨7,.phase⟩,⟨8,.phase⟩,⟨9,.phase⟩],none⟩) (by kernel_rfl) rfl (fun K hK=>?_);go_simp;refine hK.out _ _ (fun h=>absurd h (by decide)) ?_;clear hK
 try simp only [Act.put]
 refine zDA (by kernel_rfl) ?_ _;clear GB KB HQ ML BV x0 x1 x2;go_wp2;go_ret;exact ⟨rfl,FF.out⟩



instance (r c:Int) (l:Nat):Decidable (Snd r c l):=by unfold Snd;infer_instance
theorem snd13 {r c:Int} {l:Nat} (h:Snd r c l):∃a b:Nat,r=(a:Int)∧c=(b:Int):=by
 obtain ⟨h1,h2,h3,h4,h5⟩:=h;exact ⟨r.toNat,c.toNat,by omega,by omega⟩
theorem Raw.mx13 {w:World} {v:Value} {r c:Nat} {l:Nat} {zs:List Int} (h:Raw w v (r:Int) (c:Int) l zs) (hs:Snd (r:Int) (c:Int) l):Mx w v r c zs 1048576∧l=r*c:=⟨h.mx hs,by have:=hs.2.2.2.2;exact Int.ofNat.inj this⟩
theorem hnfUnique_un {w:World} {r c:Int} {aa sa:Option Addr} {la qa sn sc:Nat} (hl:la≤1048576) (hs:¬Snd r c la) :
  Calls Tryz.prog 3 #[.agg #[.int .i64 r,.int .i64 c,.slice aa la qa],.slice sa sn sc] w fun e w'=>e=.returned (.bool true)∧Below w.heap.size w w':=by
 obtain ⟨W0,hV⟩:∃W0,w.alloc (.cells #[.int .i64 r,.int .i64 c,.slice aa la qa] 24)=W0:=⟨_,rfl⟩
 obtain ⟨b0,sz0⟩:=alo1 w (.cells #[.int .i64 r,.int .i64 c,.slice aa la qa] 24);rw [hV] at b0 sz0;have PA:Hid (Cel W0 w.heap.size 24 [.int .i64 r,.int .i64 c,.slice aa la qa]):=by
  unfold Hid;rw [←hV];exact Cel.new w 24 [.int .i64 r,.int .i64 c,.slice aa la qa]
 have G:=hid b0;clear b0 sz0;have EV:=hid hV;clear hV;go_enter Tryz.func3,Tryz.ntmps3;go_wp2_with fail;rw [EV.out];clear EV;refine (zxF _).mono ?_;rintro e w1 ⟨rfl,b⟩;replace PA:=hid (PA.out.step b);replace G:=hid (below_step G.out b);clear b;have cA0:=PA.out.at (i:=0) rfl;have cA1:=PA.out.at (i:=1) rfl;have cA2:=PA.out.at (i:=2) rfl;go_wp2_with fail;clear cA0 cA1 cA2;refine (zhE hl).mono ?_;rintro e w2 ⟨bb,rfl,hb,b⟩;replace PA:=hid (PA.out.step b);replace G:=hid (below_step G.out b);obtain rfl:bb=false:=by
  rcases Bool.eq_false_or_eq_true bb with q | q
  ·exact absurd (hb.1 q) hs
  ·exact q
 clear hb;clear b;go_wp2;go_ret;exact ⟨rfl,G.out⟩
theorem hnfUnique_ok {w:World} {va sv:Value} {m n k:Nat} {zs:List Int} {rs:List Rs} (hk:k=1048576) (ha:Mx w va m n zs k) (hs:Raws w sv rs 1048576) (hgr:Hid (grw rs≤pw 1048576)) (hsd:Snd (m:Int) (n:Int) (m*n)) :
  Calls Tryz.prog 3 #[va,sv] w fun e w'=>e=.returned (.bool true)∧Below w.heap.size w w':=by
 have hzl:zs.length=m*n:=by obtain ⟨_,_,_,_,_,h,_⟩:=ha;exact h
 have hbd:=ha.lt;have M0:=ha;obtain ⟨aa,qa,rfl,hm64,hn64⟩:=ha.form;obtain ⟨sa,sn,sc,rfl⟩:∃a n c,sv=.slice a n c:=by obtain ⟨a,c,h,_⟩:=hs;exact ⟨a,_,c,h⟩
 have hk1:1≤k:=by omega
 obtain ⟨T,hTb,hTk⟩:=zhF hn64 hzl hbd hk1;obtain ⟨t,het⟩:∃t,64*k+65=t:=⟨_,rfl⟩
 rw [het] at hTk;obtain ⟨kb,hkb⟩:∃kb,k+1048576=kb:=⟨_,rfl⟩
 obtain ⟨t2,ht2⟩:∃t2,64*kb+65=t2:=⟨_,rfl⟩
 have HT:Hid (1≤k∧k≤1048576∧1≤t∧k≤t∧t≤200000000):=hid (by clear hTb hTk hbd M0 ha hs;omega);have HT2:Hid (1≤kb∧1≤t2∧kb≤t2∧t2≤200000000):=hid (by clear hTb hTk hbd M0 ha hs;omega);have HTB:=hid hTb;have HTK:=hid hTk;have HZL:=hid hzl;have EKB:=hid hkb;have ET2:=hid ht2;have HGR:=hgr;clear hgr hTb hTk het hkb ht2 hk hbd hk1;obtain ⟨la,hla⟩:∃la,m*n=la:=⟨_,rfl⟩
 rw [hla] at M0 hsd ⊢;have ELA:=hid hla;have HSD:=hid hsd;have HLA:Hid (la≤1048576):=hid (by
  have:m*n≤64*64:=Nat.mul_le_mul hm64 hn64;clear hs M0 ha;omega)
 clear hla hsd hzl;rw [show matv m n (.slice aa la qa)=.agg #[.int .i64 (m:Int),.int .i64 (n:Int),.slice aa la qa] from rfl] at M0 ⊢;obtain ⟨W0,hV⟩:∃W0,w.alloc (.cells #[.int .i64 (m:Int),.int .i64 (n:Int),.slice aa la qa] 24)=W0:=⟨_,rfl⟩
 obtain ⟨b0,sz0⟩:=alo1 w (.cells #[.int .i64 (m:Int),.int .i64 (n:Int),.slice aa la qa] 24);rw [hV] at b0 sz0;have PA:Hid (Cel W0 w.heap.size 24 [.int .i64 (m:Int),.int .i64 (n:Int),.slice aa la qa]):=by
  unfold Hid;rw [←hV];exact Cel.new w 24 [.int .i64 (m:Int),.int .i64 (n:Int),.slice aa la qa]
 have G:=hid b0;have MA:=hid (M0.now b0);have RS:=hid (hs.now b0);clear ha M0 hs;clear b0 sz0;have EV:=hid hV;clear hV;go_enter Tryz.func3,Tryz.ntmps3;go_wp2_with fail;rw [EV.out];clear EV;refine (zxF _).mono ?_;rintro e w1 ⟨rfl,b⟩;replace PA:=hid (PA.out.step b);replace MA:=hid (MA.out.now b);replace RS:=hid (RS.out.now b);replace G:=hid (below_step G.out b);clear b;have cA0:=PA.out.at (i:=0) rfl;have cA1:=PA.out.at (i:=1) rfl;have cA2:=PA.out.at (i:=2) rfl;go_wp2_with fail;clear cA0 cA1 cA2;refine (zhE HLA.out).mono ?_;rintro e w2 ⟨bb,rfl,hb,b⟩;replace PA:=hid (PA.out.step b);replace MA:=hid (MA.out.now b);replace RS:=hid (RS.out.now b);replace G:=hid (below_step G.out b);obtain rfl:bb=true:=hb.2 HSD.out;clear hb;clear b;have cA0:=PA.out.at (i:=0) rfl;have cA1:=PA.out.at (i:=1) rfl;have cA2:=PA.out.at (i:=2) rfl;go_wp2_with fail;clear cA0 cA1 cA2;refine (moved18 MA.out RS.out HT.out.2.1 HGR.out).mono ?_;rintro e w3 ⟨vB,rfl,m1,b⟩;replace PA:=hid (PA.out.step b);replace MA:=hid (MA.out.now b);replace RS:=hid (RS.out.now b);replace G:=hid (below_step G.out b);rw [EKB.out] at m1;obtain ⟨aB,qB,rfl,-,-⟩:=m1.mx.form;rw [ELA.out] at m1 ⊢;have MB:=hid m1;clear m1;have LB:=hid MB.out.mx.lt;clear b;clear RS;obtain ⟨V4,hV⟩:∃V4,w3.alloc (.cells #[.int .i64 ((m:Int)),.int .i64 ((n:Int)),.slice aB la qB] 24)=V4:=⟨_,rfl⟩
 obtain ⟨b,sz4⟩:=alo1 w3 (.cells #[.int .i64 ((m:Int)),.int .i64 ((n:Int)),.slice aB la qB] 24);rw [hV] at b sz4;replace PA:=hid (PA.out.step b);replace MA:=hid (MA.out.now b);replace MB:=hid (MB.out.now b);replace G:=hid (below_step G.out b);clear b sz4;have PB:Hid (Cel V4 w3.heap.size 24 [.int .i64 ((m:Int)),.int .i64 ((n:Int)),.slice aB la qB]):=by unfold Hid;rw [←hV];exact Cel.new w3 _ _
 have cA0:=PA.out.at (i:=0) rfl;have cA1:=PA.out.at (i:=1) rfl;have cA2:=PA.out.at (i:=2) rfl;rw [←hV] at cA0 cA1 cA2;have EV:Hid (w3.alloc (.cells #[.int .i64 ((m:Int)),.int .i64 ((n:Int)),.slice aB la qB] 24)=V4):=hV;clear hV;go_wp2_with fail;rw [EV.out];clear EV;clear cA0 cA1 cA2;refine (zlF MA.out HTB.out HT.out.2.2.1 HT.out.2.2.2.1 HT.out.2.2.2.2 HTK).mono ?_;rintro e w5 ⟨vX,r1,γ1,X,rfl,m1,hb1,b⟩;replace PA:=hid (PA.out.step b);replace MA:=hid (MA.out.now b);replace MB:=hid (MB.out.now b);replace PB:=hid (PB.out.step b);replace G:=hid (below_step G.out b);obtain ⟨aX,qX,rfl,-,-⟩:=m1.mx.form;rw [ELA.out] at m1 ⊢;have MX:=hid m1;clear m1;have HX:=hid hb1;clear hb1;clear b;obtain ⟨V6,hV⟩:∃V6,w5.alloc (.cells #[.int .i64 ((m:Int)),.int .i64 ((n:Int)),.slice aX la qX] 24)=V6:=⟨_,rfl⟩
 obtain ⟨b,sz6⟩:=alo1 w5 (.cells #[.int .i64 ((m:Int)),.int .i64 ((n:Int)),.slice aX la qX] 24);rw [hV] at b sz6;replace PA:=hid (PA.out.step b);replace MA:=hid (MA.out.now b);replace MB:=hid (MB.out.now b);replace PB:=hid (PB.out.step b);replace MX:=hid (MX.out.now b);replace G:=hid (below_step G.out b);clear b sz6;have PX:Hid (Cel V6 w5.heap.size 24 [.int .i64 ((m:Int)),.int .i64 ((n:Int)),.slice aX la qX]):=by unfold Hid;rw [←hV];exact Cel.new w5 _ _
 obtain ⟨T2,hTb2,hTk2⟩:=zhF hn64 (zqA m n (mvsX (zjB m rs) (en18 n zs))) LB.out HT2.out.1;rw [ET2.out] at hTk2;have HTB2:=hid hTb2;have HTK2:=hid hTk2;clear hTb2 hTk2;have cB0:=PB.out.at (i:=0) rfl;have cB1:=PB.out.at (i:=1) rfl;have cB2:=PB.out.at (i:=2) rfl;rw [←hV] at cB0 cB1 cB2;have EV:Hid (w5.alloc (.cells #[.int .i64 ((m:Int)),.int .i64 ((n:Int)),.slice aX la qX] 24)=V6):=hV;clear hV;go_wp2_with fail;rw [EV.out];clear EV;clear cB0 cB1 cB2;refine (zlF MB.out.mx HTB2.out HT2.out.2.1 HT2.out.2.2.1 HT2.out.2.2.2 HTK2).mono ?_;rintro e w7 ⟨vY,r2,γ2,Y,rfl,m1,hb2,b⟩;replace PA:=hid (PA.out.step b);replace MA:=hid (MA.out.now b);replace MB:=hid (MB.out.now b);replace PB:=hid (PB.out.step b);replace MX:=hid (MX.out.now b);replace PX:=hid (PX.out.step b);replace G:=hid (below_step G.out b);obtain ⟨aY,qY,rfl,-,-⟩:=m1.mx.form;rw [ELA.out] at m1 ⊢;have MY:=hid m1;clear m1;have EXY:Hid (zG18 m n X=zG18 m n Y):=by
  unfold Hid;rcases Nat.eq_zero_or_pos m with q | q
  ·subst q;simp [zG18]
  ·exact HX.out.same hb2 (fun v=>((Cm19.only (X:=mvsX (zjB m rs) (en18 n zs)) (Y:=en18 n (zG18 m n (mvsX (zjB m rs) (en18 n zs)))) (fun i j hi hj=>(zsE hi hj).symm) v).symm.trans (zBH (mvL_lt18 q rs) v)).symm)
 clear hb2;clear b;clear MB;clear PB;obtain ⟨V8,hV⟩:∃V8,w7.alloc (.cells #[.int .i64 ((m:Int)),.int .i64 ((n:Int)),.slice aY la qY] 24)=V8:=⟨_,rfl⟩
 obtain ⟨b,sz8⟩:=alo1 w7 (.cells #[.int .i64 ((m:Int)),.int .i64 ((n:Int)),.slice aY la qY] 24);rw [hV] at b sz8;replace PA:=hid (PA.out.step b);replace MA:=hid (MA.out.now b);replace MX:=hid (MX.out.now b);replace PX:=hid (PX.out.step b);replace MY:=hid (MY.out.now b);replace G:=hid (below_step G.out b);clear b sz8;have PY:Hid (Cel V8 w7.heap.size 24 [.int .i64 ((m:Int)),.int .i64 ((n:Int)),.slice aY la qY]):=by unfold Hid;rw [←hV];exact Cel.new w7 _ _
 have cX0:=PX.out.at (i:=0) rfl;have cX1:=PX.out.at (i:=1) rfl;have cX2:=PX.out.at (i:=2) rfl;have cY0:=PY.out.at (i:=0) rfl;have cY1:=PY.out.at (i:=1) rfl;have cY2:=PY.out.at (i:=2) rfl;rw [←hV] at cX0 cX1 cX2 cY0 cY1 cY2;have EV:Hid (w7.alloc (.cells #[.int .i64 ((m:Int)),.int .i64 ((n:Int)),.slice aY la qY] 24)=V8):=hV;clear hV;go_wp2_with fail;rw [EV.out];clear EV;clear cX0 cX1 cX2 cY0 cY1 cY2;refine (zJB MX.out MY.out EXY.out).mono ?_;rintro e w9 ⟨rfl,b⟩;replace PA:=hid (PA.out.step b);replace MA:=hid (MA.out.now b);replace MX:=hid (MX.out.now b);replace PX:=hid (PX.out.step b);replace MY:=hid (MY.out.now b);replace PY:=hid (PY.out.step b);replace G:=hid (below_step G.out b);clear b;clear MY;clear PY;have cX0:=PX.out.at (i:=0) rfl;have cX1:=PX.out.at (i:=1) rfl;have cX2:=PX.out.at (i:=2) rfl;go_wp2_with fail;clear cX0 cX1 cX2;refine (zhE HLA.out).mono ?_;rintro e w10 ⟨bb,rfl,hb,b⟩;replace PA:=hid (PA.out.step b);replace MA:=hid (MA.out.now b);replace MX:=hid (MX.out.now b);replace PX:=hid (PX.out.step b);replace G:=hid (below_step G.out b);obtain rfl:bb=true:=hb.2 HSD.out;clear hb;clear b;have qm:((m:Int) != (m:Int))=false:=by simp
 have qn:((n:Int) != (n:Int))=false:=by simp
 have cA0:=PA.out.at (i:=0) rfl;have cA1:=PA.out.at (i:=1) rfl;have cX0:=PX.out.at (i:=0) rfl;have cX1:=PX.out.at (i:=1) rfl;have cX2:=PX.out.at (i:=2) rfl;go_wp2_with fail;clear cA0 cA1 cX0 cX1 cX2;refine (((zME MX.out.mx (by have:=HT.out;omega)).mono fun _ _ h=>zJF h)).mono ?_;rintro e w11 ⟨pv1,bb,rfl,hb,b⟩;replace PA:=hid (PA.out.step b);replace MA:=hid (MA.out.now b);replace MX:=hid (MX.out.now b);replace PX:=hid (PX.out.step b);replace G:=hid (below_step G.out b);obtain rfl:bb=true:=hb.2 ⟨r1,γ1,HX.out.on.ec,HX.out.on.rd⟩;clear hb;clear b;have cX0:=PX.out.at (i:=0) rfl;have cX1:=PX.out.at (i:=1) rfl;have cX2:=PX.out.at (i:=2) rfl;go_wp2_with fail;clear cX0 cX1 cX2;have HTX:Hid (Tb18 m n (en18 n (zG18 m n X)) T):=tb18_form HX.out.on.ec HX.out.on.rd HTB.out.one (fun t j ht hj=>by rw [zsE ht hj];exact HX.out.size HTB.out (Nat.le_refl _) t j ht hj);refine (zlF MX.out.mx HTX.out HT.out.2.2.1 (Nat.le_refl _) HT.out.2.2.2.2 HTK).mono ?_;rintro e w12 ⟨vZ,r3,γ3,Z,rfl,m1,hb3,b⟩;replace PA:=hid (PA.out.step b);replace MA:=hid (MA.out.now b);replace MX:=hid (MX.out.now b);replace PX:=hid (PX.out.step b);replace G:=hid (below_step G.out b);obtain ⟨aZ,qZ,rfl,-,-⟩:=m1.mx.form;rw [ELA.out] at m1 ⊢;have MZ:=hid m1;clear m1;have EZX:Hid (zG18 m n Z=zG18 m n X):=by
  unfold Hid;rw [hb3.same HX.out.on (fun v=>Iff.rfl),zfF (zqA m n X)]
 clear hb3;clear b;obtain ⟨V13,hV⟩:∃V13,w12.alloc (.cells #[.int .i64 ((m:Int)),.int .i64 ((n:Int)),.slice aZ la qZ] 24)=V13:=⟨_,rfl⟩
 obtain ⟨b,sz13⟩:=alo1 w12 (.cells #[.int .i64 ((m:Int)),.int .i64 ((n:Int)),.slice aZ la qZ] 24);rw [hV] at b sz13;replace PA:=hid (PA.out.step b);replace MA:=hid (MA.out.now b);replace MX:=hid (MX.out.now b);replace PX:=hid (PX.out.step b);replace MZ:=hid (MZ.out.now b);replace G:=hid (below_step G.out b);clear b sz13;have PZ:Hid (Cel V13 w12.heap.size 24 [.int .i64 ((m:Int)),.int .i64 ((n:Int)),.slice aZ la qZ]):=by unfold Hid;rw [←hV];exact Cel.new w12 _ _
 have cX0:=PX.out.at (i:=0) rfl;have cX1:=PX.out.at (i:=1) rfl;have cX2:=PX.out.at (i:=2) rfl;have cZ0:=PZ.out.at (i:=0) rfl;have cZ1:=PZ.out.at (i:=1) rfl;have cZ2:=PZ.out.at (i:=2) rfl;rw [←hV] at cX0 cX1 cX2 cZ0 cZ1 cZ2;have EV:Hid (w12.alloc (.cells #[.int .i64 ((m:Int)),.int .i64 ((n:Int)),.slice aZ la qZ] 24)=V13):=hV;clear hV;go_wp2_with fail;rw [EV.out];clear EV;clear cX0 cX1 cX2 cZ0 cZ1 cZ2;refine (zJB MZ.out MX.out EZX.out).mono ?_;rintro e w14 ⟨rfl,b⟩;replace PA:=hid (PA.out.step b);replace MA:=hid (MA.out.now b);replace MX:=hid (MX.out.now b);replace PX:=hid (PX.out.step b);replace MZ:=hid (MZ.out.now b);replace PZ:=hid (PZ.out.step b);replace G:=hid (below_step G.out b);clear b;clear MZ;clear PZ;have cA0:=PA.out.at (i:=0) rfl;have cA1:=PA.out.at (i:=1) rfl;have cA2:=PA.out.at (i:=2) rfl;go_wp2_with fail;clear cA0 cA1 cA2;refine (((zME MA.out (by have:=HT.out;omega)).mono fun _ _ h=>zJF h)).mono ?_;rintro e w15 ⟨pv2,b2,rfl,hb,b⟩;replace PA:=hid (PA.out.step b);replace MA:=hid (MA.out.now b);replace MX:=hid (MX.out.now b);replace PX:=hid (PX.out.step b);replace G:=hid (below_step G.out b);have HB2:=hid hb;clear hb;clear b;have cA0:=PA.out.at (i:=0) rfl;have cA1:=PA.out.at (i:=1) rfl;have cA2:=PA.out.at (i:=2) rfl;go_wp2_with fail;clear cA0 cA1 cA2;refine (isForm18 MA.out).mono ?_;rintro e w16 ⟨b3,rfl,hb,b⟩;replace PA:=hid (PA.out.step b);replace MA:=hid (MA.out.now b);replace MX:=hid (MX.out.now b);replace PX:=hid (PX.out.step b);replace G:=hid (below_step G.out b);obtain rfl:b2=b3:=by
  have h1:=HB2.out
  by_cases q:Hf18 n m (en18 n zs)
  ·rw [h1.2 q,hb.2 q]
  ·have e1:b2=false:=by rcases Bool.eq_false_or_eq_true b2 with e | e;exact absurd (h1.1 e) q;exact e
   have e2:b3=false:=by rcases Bool.eq_false_or_eq_true b3 with e | e;exact absurd (hb.1 e) q;exact e
   rw [e1,e2]
 clear hb;clear b;have cA0:=PA.out.at (i:=0) rfl;have cA1:=PA.out.at (i:=1) rfl;have cA2:=PA.out.at (i:=2) rfl;go_wp2_with fail;clear cA0 cA1 cA2;refine (((zFF MA.out (by have:=HT.out;omega)).mono fun _ _ h=>h.mo)).mono ?_;rintro e w17 ⟨vL,rfl,m1,b⟩;replace PA:=hid (PA.out.step b);replace MA:=hid (MA.out.now b);replace MX:=hid (MX.out.now b);replace PX:=hid (PX.out.step b);replace G:=hid (below_step G.out b);obtain ⟨aL,qL,rfl,-,-⟩:=m1.mx.form;rw [ELA.out] at m1 ⊢;have ML:=hid m1;clear m1;clear b;obtain ⟨V18,hV⟩:∃V18,w17.alloc (.cells #[.int .i64 ((m:Int)),.int .i64 ((n:Int)),.slice aL la qL] 24)=V18:=⟨_,rfl⟩
 obtain ⟨b,sz18⟩:=alo1 w17 (.cells #[.int .i64 ((m:Int)),.int .i64 ((n:Int)),.slice aL la qL] 24);rw [hV] at b sz18;replace PA:=hid (PA.out.step b);replace MA:=hid (MA.out.now b);replace MX:=hid (MX.out.now b);replace PX:=hid (PX.out.step b);replace ML:=hid (ML.out.now b);replace G:=hid (below_step G.out b);clear b sz18;have PL:Hid (Cel V18 w17.heap.size 24 [.int .i64 ((m:Int)),.int .i64 ((n:Int)),.slice aL la qL]):=by unfold Hid;rw [←hV];exact Cel.new w17 _ _
 have qb:(b2 == b2)=true:=by simp
 have cX0:=PX.out.at (i:=0) rfl;have cX1:=PX.out.at (i:=1) rfl;have cX2:=PX.out.at (i:=2) rfl;have cL0:=PL.out.at (i:=0) rfl;have cL1:=PL.out.at (i:=1) rfl;have cL2:=PL.out.at (i:=2) rfl;rw [←hV] at cX0 cX1 cX2 cL0 cL1 cL2;have EV:Hid (w17.alloc (.cells #[.int .i64 ((m:Int)),.int .i64 ((n:Int)),.slice aL la qL] 24)=V18):=hV;clear hV;go_wp2_with fail;rw [EV.out];clear EV;clear cX0 cX1 cX2 cL0 cL1 cL2;refine (alikeMatsB18 ML.out MX.out).mono ?_;rintro e w19 ⟨rfl,b⟩;replace PA:=hid (PA.out.step b);replace MA:=hid (MA.out.now b);replace MX:=hid (MX.out.now b);replace PX:=hid (PX.out.step b);replace ML:=hid (ML.out.now b);replace PL:=hid (PL.out.step b);replace G:=hid (below_step G.out b);have hq:decide (zs=zG18 m n X)=b2:=by
  have h1:=HB2.out.trans (hf_dec18 HX.out HZL.out)
  by_cases q:zs=zG18 m n X
  ·rw [decide_eq_true q,h1.2 q]
  ·rw [decide_eq_false q]
   rcases Bool.eq_false_or_eq_true b2 with e | e
   ·exact absurd (h1.1 e) q
   ·exact e.symm
 rw [hq];clear b;go_wp2;go_ret;exact ⟨rfl,G.out⟩
theorem hnfUnique_any {w:World} {va sv:Value} {ra ca:Int} {la:Nat} {xs:List Int} {rs:List Rs} (ha:Raw w va ra ca la xs) (hs:Raws w sv rs 1048576) (hgr:grw rs≤pw 1048576) :
  Calls Tryz.prog 3 #[va,sv] w fun e w'=>e=.returned (.bool true)∧Below w.heap.size w w':=by
 by_cases hsa:Snd ra ca la
 ·obtain ⟨m,n,rfl,rfl⟩:=snd13 hsa
  obtain ⟨ma,hla⟩:=ha.mx13 hsa;subst hla;exact hnfUnique_ok rfl ma hs hgr hsa
 ·obtain ⟨a,cap,ps,rfl,-,-,-,h5⟩:=ha
  obtain ⟨sa,sn,sc,rfl⟩:∃a n c,sv=.slice a n c:=by obtain ⟨a,c,h,_⟩:=hs;exact ⟨a,_,c,h⟩
  exact hnfUnique_un h5 hsa
end Go.Proofs.YtefpboopafdhpaaGreat
