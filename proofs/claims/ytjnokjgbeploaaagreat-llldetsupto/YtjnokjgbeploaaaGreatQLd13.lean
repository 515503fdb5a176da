import Derived.Test.YtjnokjgbeploaaaGreatQDt13
import Derived.Test.YtjnokjgbeploaaaGreatQEach9ToColsP9
set_option maxRecDepth 100000
set_option maxHeartbeats 6400000
set_option linter.unusedVariables false
set_option linter.unusedSimpArgs false
namespace Go.Proofs.YtjnokjgbeploaaaGreat
open Go.RowKit Go.Shelf
attribute [local go_sem] Oper.semAt_some
theorem OwnP.blk {B b:Nat} {w:World} {v:Value} {ps:List (Value×Value)} (h:OwnP B w v ps) (hb:v.ownBlock=some b):B≤b∧b<w.heap.size∧∃L,w.heap[b]?=some (.cells L 39 (0,0)):=by
 obtain ⟨_,⟨r2,_⟩ | ⟨g2,cap,cur,r2,r3,r4,r5⟩⟩:=h
 ·rw [r2] at hb;cases hb
 ·rw [r2] at hb
  simp only [Value.ownBlock,Option.some.injEq] at hb;subst hb;exact ⟨r3,(Array.getElem?_eq_some_iff.1 r4).1,cur,r4⟩
theorem OwnP.keep13 {B:Nat} {w w':World} {v:Value} {ps:List (Value×Value)} (h:OwnP B w v ps) (hk:∀b,v.ownBlock=some b→b<w.heap.size→w'.heap[b]?=w.heap[b]?):OwnP B w' v ps:=zyA h hk
def ldL (A:Nat→Nat→Int) (n:Nat):List Int:=(List.range (n+1)).map fun t=>det t A
theorem ldL_succ (A:Nat→Nat→Int) (n:Nat):ldL A (n+1)=ldL A n ++ [det (n+1) A]:=by unfold ldL;rw [List.range_succ,List.map_append];rfl
def LdJ (w:World) (Bs Bl c r kw:Nat) (zs:List Int) (s:Nat×List Nat) (W:World):Prop :=
 ∃rs cs odd ks lv qs,Srs (en c zs) s.1 W Bs c rs cs odd ks kw∧Stz (en c zs) c s.2.length rs cs odd∧(∀x∈ks,x∈s.2)∧(∀x∈s.2,x<W.heap.size)∧Cel W Bl 22 [lv]∧OwnP w.heap.size W lv qs∧Zms W qs (ldL (en c zs) s.2.length) kw∧(∀b,lv.ownBlock=some b→b ∉ s.2∧(b+1=Bl∨s.1≤b))∧s.2.length≤r∧Below w.heap.size w W∧Bl<s.1∧Bs<s.1
theorem LdJ.own {w:World} {Bs Bl c r kw B:Nat} {zs:List Int} (hB:w.heap.size≤B):OwnFrom B (LdJ w Bs Bl c r kw zs):=fun s W W' row hs hg hr=>by
 obtain ⟨rs,cs,odd,ks,lv,qs,h1,h2,h3,h4,h5,h6,h7,h8,h9,h10,h11⟩:=hs;have hk:=ztA hg (fun r e=>(hr r e).2);exact ⟨rs,cs,odd,ks,lv,qs,h1.kc hk,h2,h3,fun x hx=>Nat.lt_of_lt_of_le (h4 x hx) hk.1,hk.cel h5,h6.keep13 (fun b hb _=>by obtain ⟨_,_,L,e⟩:=h6.blk hb;rw [e];exact hk.2 b _ e rfl),h7.kc hk,h8,h9,h10.grown hg h10.size (fun k e=>Nat.le_trans hB (hr k e).1),h11⟩
def AtF (J:Nat×List Nat→World→Prop) (k:Nat) (m:List (List Int)) (s:Nat×List Nat) (x:Nat×Nat) (X:World):Prop:=AtL k m s x X∧∃X0,J s X0∧X0.heap.size≤x.2∧Kc X0 X
theorem Kc.trans {X Y Z:World} (h:Kc X Y) (h':Kc Y Z):Kc X Z:=⟨Nat.le_trans h.1 h'.1,fun b o e q=>h'.2 b o (h.2 b o e q) q⟩
theorem AtF.own {J:Nat×List Nat→World→Prop} {k B:Nat} {m:List (List Int)} (s:Nat×List Nat) (x:Nat×Nat):OwnFrom B (fun (_:Unit) W=>AtF J k m s x W):=fun u W W' row hs hg hr=>by
 obtain ⟨h1,X0,h2,h3,h4⟩:=hs;exact ⟨AtL.own s x u W W' row h1 hg hr,X0,h2,h3,h4.trans (ztA hg (fun r e=>(hr r e).2))⟩
def zgG (w:World) (n:Nat) (zs:List Int) (kw:Nat) (e:Ending) (w':World):Prop :=
 ∃lv qs,e=.returned (.tuple #[lv,.int .i64 0])∧OwnP w.heap.size w' lv qs∧Zms w' qs (ldL (en n zs) n) kw∧Below w.heap.size w w'
theorem own_one (w:World) (B:Nat) (n:Bool) (a:Option Addr) (l c:Nat) (hB:B≤w.heap.size):OwnP B (w.alloc (duo (.bool n) (.slice a l c))) (.slice (some ⟨w.heap.size,0,none⟩) 1 1) [(.bool n,.slice a l c)] :=
 ⟨rfl,.inr ⟨w.heap.size,1,_,rfl,hB,Duo.new w _ _,Nat.le_refl _,by unfold maxLen;omega,rfl,rfl⟩⟩
theorem zPH {w:World} {v:Value} {c:Nat} {zs:List Int} {k:Nat} (h:Mx w v c c zs k) (hk:k≤4000000000):Calls Tryz.prog 11 #[v] w (zgG w c zs (64*k+7)):=by
 have M0:=h;refine (callsIn_wide (n:=5)).1 ?_;have HZA:Hid (∀z∈zs,(z.natAbs:Int)<pw k):=by obtain ⟨_,_,_,_,h,_⟩:=h;exact h.lt
 have HZL:Hid (zs.length=c*c):=by obtain ⟨_,_,_,_,_,h,_⟩:=h;exact h
 obtain ⟨aa,ca,rfl,hc,-⟩:=h.form;obtain ⟨la,hla⟩:∃la,c*c=la:=⟨_,rfl⟩
 rw [hla] at M0 ⊢;obtain ⟨W0,hW⟩:∃W0,w.alloc (matO c c (.slice aa la ca))=W0:=⟨_,rfl⟩
 obtain ⟨b0,sz0⟩:=alo1 w (matO c c (.slice aa la ca));rw [hW] at b0 sz0;have PM:Hid (Cel W0 w.heap.size 24 (matc c c (.slice aa la ca))):=by unfold Hid;rw [←hW];exact Cel.new w _ _
 have M1:=hid (M0.now b0);have HC:=hid (zdH M1.out);have G:=hid b0;have EW:=hid hW;have SZ:=hid sz0;have HKK:=hid hk;clear h M0 b0 sz0 hW hk hla;refine callsIn_of_wp_marks Tryz.func11 rfl trivial ?_ rfl;simp only [Tryz.ntmps11,List.size_toArray,List.length_cons,List.length_nil,Nat.reduceAdd,Nat.reduceSub,Array.replicate_succ,Array.replicate_zero,List.push_toArray,List.append_toArray,List.nil_append,List.cons_append];gi_wp2_with fail;rw [EW.out];clear EW;refine ⟨trivial,(callsIn_wide.2 HC.out).mono ?_⟩;rintro e w1 ⟨rfl,b⟩;obtain ⟨V1,hV⟩:∃V1,w1.alloc (.cells #[.slice none 0 0,.slice none 0 0,.slice none 0 0,.bool false] 50)=V1:=⟨_,rfl⟩
 obtain ⟨bv,szv⟩:=alo1 w1 (.cells #[.slice none 0 0,.slice none 0 0,.slice none 0 0,.bool false] 50);rw [hV] at bv szv;have PS:Hid (Cel V1 w1.heap.size 50 [.slice none 0 0,.slice none 0 0,.slice none 0 0,.bool false]):=by unfold Hid;rw [←hV];exact Cel.new w1 _ _
 replace PM:=hid ((PM.out.step b).step bv);replace M1:=hid ((M1.out.now b).now bv);replace G:=hid (zBA (zBA G.out b) bv);have HOF:=hid (of_z (n:=1) (by decide) (by decide) V1);have EV:=hid hV;have hs1:=b.size;have SZV:=hid szv;clear HC b bv szv hV;gi_wp2_with fail;rw [EV.out];clear EV;refine ⟨trivial,(callsIn_wide.2 HOF.out).mono ?_⟩;rintro e w2 ⟨r0,rfl,m0,b⟩;obtain ⟨nb,xb,ab,cb,rfl⟩:=m0.parts;obtain ⟨V2,hV⟩:∃V2,(w2.alloc (duo (.bool nb) (.slice ab xb.length cb))).alloc (.cells #[.slice (some ⟨w2.heap.size,0,none⟩) 1 1] 22)=V2:=⟨_,rfl⟩
 obtain ⟨bv,szv⟩:=zjA w2 (duo (.bool nb) (.slice ab xb.length cb)) (.cells #[.slice (some ⟨w2.heap.size,0,none⟩) 1 1] 22);rw [hV] at bv szv;have PL:Hid (Cel V2 (w2.heap.size+1) 22 [.slice (some ⟨w2.heap.size,0,none⟩) 1 1]):=by
  unfold Hid;rw [←hV];have:=Cel.new (w2.alloc (duo (.bool nb) (.slice ab xb.length cb))) 22 [.slice (some ⟨w2.heap.size,0,none⟩) 1 1]
  simpa using this
 have PA:Hid (Duo V2 w2.heap.size (.bool nb) (.slice ab xb.length cb)):=by
  unfold Hid;rw [←hV];exact zPA (Duo.new w2 _ _) _
 have hs2:=b.size;have OW:Hid (OwnP w.heap.size V2 (.slice (some ⟨w2.heap.size,0,none⟩) 1 1) [(.bool nb,.slice ab xb.length cb)]):=by
  unfold Hid;rw [←hV];refine (own_one w2 w.heap.size nb ab xb.length cb (by have:=G.out.size;omega)).keep13 fun b _ hb=>?_
  exact ((Below.refl _ _).alloc (Nat.le_refl _) _).block b hb
 have ZW:Hid (Zms V2 [(.bool nb,.slice ab xb.length cb)] (ldL (en c zs) 0) (64*k+7)):=by
  refine ⟨rfl,fun j p z hp hz=>?_⟩;have hj:j=0:=by have:=(List.getElem?_eq_some_iff.1 hp).1;simp at this;omega
  subst hj;simp only [List.getElem?_cons_zero,Option.some.injEq] at hp;have hz':z=1:=by
   have e:(ldL (en c zs) 0)[0]?=some 1:=rfl;rw [e,Option.some.injEq] at hz;exact hz.symm
  subst hp hz';exact ((m0.mono (Nat.zero_le _)).now bv).more (by omega)
 replace PS:=hid ((PS.out.step b).step bv);replace PM:=hid ((PM.out.step b).step bv);replace M1:=hid ((M1.out.now b).now bv);replace G:=hid (zBA (zBA G.out b) bv);have HLI:=hid (zDF M1.out);have x0:=PM.out.at (i:=0) rfl;have x1:=PM.out.at (i:=1) rfl;have x2:=PM.out.at (i:=2) rfl;rw [←hV] at x0 x1 x2;have EV:=hid hV;have SV:=hid szv;clear b bv szv hV m0 HOF M1 PM;gi_wp2_with fail;rw [EV.out];clear EV;refine ⟨trivial,(callsIn_wide.2 HLI.out).mono ?_⟩;rintro e w4 ⟨Bm,ga,ps,rfl,q1,q2,q3,q4,q5,b⟩;have HQ3:=hid q3;have HQ5:=hid q5;have HQ1:=hid q1;have G1:=hid (zBA G.out b);replace PS:=hid (PS.out.step b);replace PL:=hid (PL.out.step b);replace PA:=hid (PA.out.step b);replace OW:=hid (OW.out.keep13 fun j _ hj=>b.block j hj);replace ZW:=hid (ZW.out.now b);have hs4:=b.size;have hsv:=SV.out;have hsz:=SZ.out;have hszv:=SZV.out;clear q1 q3 q5 b x0 x1 x2 HLI G;gi_wp2_with fail;have hml:(rowsL c c zs).length=c:=zpB;refine zOI (σ:=Nat×List Nat) (α:=Nat×Nat) (by decide) rfl (enters_of Tryz.func47 (by kernel_rfl) rfl) (encL c) (fun _=>rfl)
  (LdJ w w1.heap.size (w2.heap.size+1) c c (64*k+7) zs) (LdJ.own (by omega)) (AtF (LdJ w w1.heap.size (w2.heap.size+1) c c (64*k+7) zs) k (rowsL c c zs)) (fun s x=>AtF.own s x) (fun s x=>(s.1,s.2 ++ [x.2]))
  (fun s=>KpL (fun b=>b=w1.heap.size∨b=w2.heap.size∨b=w2.heap.size+1) s.1) (fun h h'=>h.trans h') (fun s W l o o' _ h1 h2=>KpL.put h1 h2) (fun s=>s.2=[]∧w2.heap.size+1<s.1) (fun s=>s.2.length=c) ?ini ?it (fun x=>{ tmps:=#[matv c c (.slice aa la ca),.pointer (some ⟨w.heap.size,0,none⟩),.slice none 0 0,.int .i64 0,.int .i64 0,.pointer (some ⟨w1.heap.size,0,none⟩),.pointer (some ⟨w2.heap.size+1,0,none⟩),.int .i64 (x.1:Int),.slice (some ⟨x.2,0,none⟩) c c,.agg #[.int .i64 (c:Int),.int .i64 (c:Int),.slice aa la ca],.int .i64 0,.int .i64 0,.bool false,undef,.agg #[.bool nb,.slice ab xb.length cb],.slice (some ⟨w2.heap.size,0,none⟩) 1 1,.agg #[.int .i64 (c:Int),.int .i64 (c:Int),.slice aa la ca],.func (.func 47) #[] #[.pointer (some ⟨Bm,0,none⟩)],.int .i64 (x.1:Int),.slice (some ⟨x.2,0,none⟩) c c,undef,undef,undef,undef,undef,undef,undef,undef,undef,undef],defers:=[] }) ?assign ?body ?done
 case ini =>
  rintro ⟨B,gs⟩ ⟨rfl,hB⟩;exact ⟨[],[],false,[],_,_,⟨_,_,_,PS.out,Ivs.nil _ _,Ivs.nil _ _,ShtM.nil _ _ _ _,fun b h=>by cases h⟩,Stz.start _,fun x h=>by simp at h,fun x h=>by simp at h,PL.out,OW.out,ZW.out,fun b hb=>⟨by simp,.inl (by simp only [Value.ownBlock,Option.some.injEq] at hb;omega)⟩,Nat.zero_le _,G1.out,hB,by omega⟩
 case it =>
  intro l J' W hW hJ hJb hJ0 hY;have c1:Cel W Bm 24 (matc c c (.slice (some ⟨ga,0,none⟩) (c*c) (c*c))):=HQ1.out.step hW;have ar:=HQ3.out.step hW;have zr:=HQ5.out.now hW;have hrc:c*c≤64*64:=Nat.mul_le_mul hc hc;have pr:Prs (w2.heap.size+1+1) W (.slice (some ⟨ga,0,none⟩) (c*c) (c*c)) ps:=by
   have:=ar.prs (B:=w2.heap.size+1+1) (by omega) (by omega) (cap:=c*c) (by omega);rw [q4] at this;exact this
  refine (zEF (S:=fun b=>b=w1.heap.size∨b=w2.heap.size∨b=w2.heap.size+1) (by decide) J' c1 pr q4 zr.zis hc hc hJb (fun B hB=>hJ0 _ ⟨rfl,by have:=hW.size;omega⟩) (fun s A h=>by
   obtain ⟨_,_,_,_,_,_,_,_,_,h4,_⟩:=hJ s A h;exact h4) (by have:=hW.size;omega) (fun b off x hs e=>?_) (fun b hs=>by rcases hs with q | q | q <;> omega) (fun s x X h1 h2 ⟨X0,h3,h4,h5⟩=>hY s x X h1 ⟨h2,X0,hJ s X0 h3,h4,zfB h5⟩)).mono (fun e Y h=>h)
  have e':=(hW.cell (p:=⟨b,off,none⟩) (by rcases hs with q | q | q <;> (dsimp only;omega))).symm.trans e;clear e;rcases hs with rfl | rfl | rfl
  ·have d:=PS.out
   match off,e' with
   | 0,e=>rw [d.at (i:=0) rfl] at e;simp at e
   | 1,e=>rw [d.at (i:=1) rfl] at e;simp at e
   | 2,e=>rw [d.at (i:=2) rfl] at e;simp at e
   | 3,e=>rw [d.at (i:=3) rfl] at e;simp at e
   | off+4,e=>simp [World.cell?,show w4.heap[w1.heap.size]?=_ from d] at e
  ·have d:=PA.out
   match off,e' with
   | 0,e=>rw [d.c0] at e;simp at e
   | 1,e=>rw [d.c1] at e;simp at e
   | off+2,e=>simp [World.cell?,show w4.heap[w2.heap.size]?=_ from d] at e
  ·have d:=PL.out
   match off,e' with
   | 0,e=>rw [d.at (i:=0) rfl] at e;simp at e
   | off+1,e=>simp [World.cell?,show w4.heap[w2.heap.size+1]?=_ from d] at e
 case assign =>
  intro l x W K hK;have HKK:=hid hK;clear hK;gi_wp2;exact HKK.out
 case body =>
  rintro l ⟨B,gs⟩ ⟨t,gx⟩ W ⟨rs,cs,odd,ks,lv,qs,h1,h2,h3,h4,h5,h6,h7,h8,h9,h10,h11,h12⟩ ⟨⟨k1,k2,k3,k4,k5,ps',k6,k7⟩,X0,j1,j2,j3⟩;dsimp only at k1 k2 k3 k4 k5 k6 k7 h1 h2 h3 h4 h6 h7 h8 h9 h11 h12 j1 j2 j3 ⊢;subst k1;have hgr:gs.length<c:=by omega
  rw [zXI HZL.out hgr] at k7;have hrl:rs.length≤gs.length:=h2.le;have hgk:∀x∈ks,x≠gx:=fun x hx=>k5 x (h3 x hx)
  have hlg:∀b,lv.ownBlock=some b→b≠gx:=fun b hb=>by
   obtain ⟨_,_,_,_,lv0,qs0,_,_,_,_,i5,i6,_⟩:=j1;have e:=(j3.cel i5).symm.trans (show W.heap[_]?=_ from h5);simp only [Option.some.injEq,Obj.cells.injEq] at e;have e2:lv0=lv:=by simpa using e.1
   subst e2;have:=(i6.blk hb).2.1;omega
  have HC:=hid (zQF h1 h2 k6 (k7.more (show k≤64*k+7 by omega)) hgk k3 (zXH HZA.out (by omega)) (by omega) (by have:=HKK.out;omega) hc (show gs.length<64 by omega));have HW:=hid h10;have H5:=hid h5;have H6:=hid h6;have H7:=hid h7;have H8:=hid h8;have H4:=hid h4;have H3:=hid h3;have HLG:=hid hlg;have K4:=hid k4;have K6:=hid k6;have K3:=hid k3;clear h1 h2 h5 h6 h7 h8 h4 h3 hlg k4 k5 k6 k3 k7 j1 j2 j3 h10 hgk hrl;gi_wp2_with fail;refine ⟨trivial,(callsIn_wide.2 HC.out).mono ?_⟩;rintro e Y ⟨rfl,rs',cs',odd',ks',c1,c2,c3,c4⟩;have S1:=hid c1;have Z1:=hid c2;have y0:Y.cell? ⟨w2.heap.size+1,0,none⟩=some lv:=by
   have d:Cel Y (w2.heap.size+1) 22 [lv]:=(c4.1.block _ H5.out.blk (fun q=>by rcases q with q | q <;> omega)).trans H5.out;exact d.at (i:=0) rfl
  have O1:Hid (OwnP w.heap.size Y lv qs):=H6.out.keep13 (fun b hb _=>by
   obtain ⟨_,_,L,e⟩:=H6.out.blk hb;rw [e];exact c4.2.2 b L _ _ e (by decide) (by decide) (by decide) (HLG.out b hb))
  have HWY:Hid (w.heap.size≤Y.heap.size):=by unfold Hid;have:=HW.out.size;have:=c4.1.size;omega
  have HQL:Hid (qs.length≤1048576):=by unfold Hid;rw [H7.out.1];simp [ldL];omega
  have HAP:Hid (∀(X:World) (g' l' cap':Nat) (w9:World) (x y:Value),Below Y.heap.size Y X→Zm 0 X (.agg #[x,y]) (zYE (en c zs) rs' cs' odd' (gs.length+1)) (64*k+7)→OwnP w.heap.size w9 (.slice (some ⟨g',0,none⟩) l' cap') (qs ++ [(x,y)])→X.grownBy w9 lv.ownBlock→(lv.ownBlock=some g'∨g'=X.heap.size) →
    Cel w9 (w2.heap.size+1) 22 [lv]∧KeepsFrom w4.heap.size W (w9.setCell ⟨w2.heap.size+1,0,none⟩ (.slice (some ⟨g',0,none⟩) l' cap'))∧LdJ w w1.heap.size (w2.heap.size+1) c c (64*k+7) zs (B,gs ++ [gx]) (w9.setCell ⟨w2.heap.size+1,0,none⟩ (.slice (some ⟨g',0,none⟩) l' cap'))∧KpL (fun b=>b=w1.heap.size∨b=w2.heap.size∨b=w2.heap.size+1) B W (w9.setCell ⟨w2.heap.size+1,0,none⟩ (.slice (some ⟨g',0,none⟩) l' cap'))):=by
   intro X g' l' cap' w9 x y hX hm hO hg hb;have hYX:=hX.size;have hWY:=c4.1.size;have hwW:=HW.out.size;have d:Cel Y (w2.heap.size+1) 22 [lv]:=(c4.1.block _ H5.out.blk (fun q=>by rcases q with q | q <;> omega)).trans H5.out;have hob:∀b,lv.ownBlock=some b→w.heap.size≤b∧b<W.heap.size∧b ∉ gs∧b≠gx:=fun b hb'=>⟨(H6.out.blk hb').1,(H6.out.blk hb').2.1,(H8.out b hb').1,HLG.out b hb'⟩
   have hob2:∀b,lv.ownBlock=some b→∃L,X.heap[b]?=some (.cells L 39 (0,0)):=fun b hb'=>by
    obtain ⟨_,_,L,e⟩:=O1.out.blk hb';exact ⟨L,(hX.block b (Array.getElem?_eq_some_iff.1 e).1).trans e⟩
   have ty:Ty 39 X w9:=⟨hg.size,fun b L T fr e hne=>(hg.block b (Array.getElem?_eq_some_iff.1 e).1 fun q=>by
    obtain ⟨L',e'⟩:=hob2 b q.symm;have:=e.symm.trans e';simp only [Option.some.injEq,Obj.cells.injEq] at this;exact hne this.2.1).trans e⟩
   have d9:Cel w9 (w2.heap.size+1) 22 [lv]:=(d.step hX).ty13 ty (by decide);have tz:Ty 22 w9 (w9.setCell ⟨w2.heap.size+1,0,none⟩ (.slice (some ⟨g',0,none⟩) l' cap')):=Ty.set d9;obtain ⟨U,hU⟩:∃U,w9.setCell ⟨w2.heap.size+1,0,none⟩ (.slice (some ⟨g',0,none⟩) l' cap')=U:=⟨_,rfl⟩
   have hUs:U.heap.size=w9.heap.size:=by rw [←hU];simp
   have ub:∀b,b≠w2.heap.size+1→U.heap[b]?=w9.heap[b]?:=fun b hne=>by rw [←hU];exact Below.heap_setCell w9 _ _ b (fun q=>hne (by simpa using q))
   have hks:∀x∈ks',x∈gs ++ [gx]:=fun x hx=>by
    rcases c3 x hx with q | q
    ·simp [H3.out x q]
    ·simp [q]
   have hlow:∀x∈gs ++ [gx],x<W.heap.size:=fun x hx=>by
    rcases List.mem_append.1 hx with q | q
    ·exact H4.out x q
    ·have:x=gx:=by simpa using q
     subst this;exact K6.out.1.blk
   have h9:=hg.size
   -- a block other than the list's stays from Y to U
   have st:∀b,b<Y.heap.size→lv.ownBlock≠some b→b≠w2.heap.size+1→U.heap[b]?=Y.heap[b]?:=fun b h1 h2 h3=>((ub b h3).trans (hg.block b (by omega) (fun q=>h2 q.symm))).trans (hX.block b h1)
   have dU:Cel U (w2.heap.size+1) 22 [.slice (some ⟨g',0,none⟩) l' cap']:=by rw [←hU];exact d9.set 0 _
   have tz':Ty 22 w9 U:=by rw [←hU];exact tz
   have hSU:Srs (en c zs) B U w1.heap.size c rs' cs' odd' ks' (64*k+7):=by
    obtain ⟨rv,cv,lv2,s1,s2,s3,s4,s5⟩:=c1;have notown:∀(b:Nat) (L:Array Value) (T:TypeId),Y.heap[b]?=some (.cells L T (0,0))→T≠39→lv.ownBlock≠some b:=fun b L T e hT q=>by
     obtain ⟨_,_,L',e'⟩:=O1.out.blk q;have:=e.symm.trans e';simp only [Option.some.injEq,Obj.cells.injEq] at this;exact hT this.2.1
    have tyY:∀(b:Nat) (L:Array Value) (T:TypeId),Y.heap[b]?=some (.cells L T (0,0))→T≠39→b≠w2.heap.size+1→U.heap[b]?=some (.cells L T (0,0)):=fun b L T e hT hne=>(st b (Array.getElem?_eq_some_iff.1 e).1 (notown b L T e hT) hne).trans e
    refine ⟨rv,cv,lv2,tyY _ _ _ s1 (by decide) (by omega),s2.keep fun b L hb' e=>tyY b L _ e (by decide) (by have:=(s2.blk hb').1;omega),s3.keep fun b L hb' e=>tyY b L _ e (by decide) (by have:=(s3.blk hb').1;omega),?_,s5⟩;have s40:=s4;obtain ⟨t1,t2,t3,t4,t5,t6⟩:=s4;refine ⟨zyA t1 fun b hb' hlt=>?_,t2,t3,t4,t5,fun j g hg'=>?_⟩
    ·obtain ⟨hBb,L,e⟩:=s40.blk hb'
     rw [e];exact tyY b L _ e (by decide) (by omega)
    ·obtain ⟨us,u1,u2⟩:=t6 j g hg'
     have hmem:=List.mem_of_getElem? hg';have hgin:=hks g hmem;have hBg:=t4 g hmem;refine ⟨us,⟨(st g u1.1.blk (fun q=>?_) (by omega)).trans u1.1,u1.2⟩,((u2.now hX).ty ty (by decide)).ty tz' (by decide)⟩;obtain ⟨_,_,q3,q4⟩:=hob g q;rcases List.mem_append.1 hgin with q5 | q5
     ·exact q3 q5
     ·exact q4 (by simpa using q5)
   rw [hU];refine ⟨d9,⟨by omega,fun j o _ e ho=>?_⟩,⟨rs',cs',odd',ks',_,qs ++ [(x,y)],hSU,by simpa using c2,hks,fun x hx=>by have:=hlow x hx;omega,dU,?_,?_,?_,by simp;omega,?_,h11,h12⟩,⟨by omega,fun b o hb' hne e ho=>?_⟩⟩
   ·-- what is no cells
    have e1:=c4.2.1 j o e ho;refine (st j (Array.getElem?_eq_some_iff.1 e1).1 (fun q=>?_) (fun q=>?_)).trans e1
    ·obtain ⟨_,_,L',e'⟩:=O1.out.blk q
     rw [e1,Option.some.injEq] at e';subst e';cases ho
    ·subst q
     have:=e1.symm.trans (show Y.heap[_]?=_ from d);rw [Option.some.injEq] at this;subst this;cases ho
   ·exact hO.keep13 fun b hb' hlt=>ub b (fun q=>by
     subst q;obtain ⟨_,_,L',e'⟩:=hO.blk hb';have:=e'.symm.trans (show w9.heap[_]?=_ from d9);simp only [Option.some.injEq,Obj.cells.injEq] at this;exact absurd this.2.1 (by decide))
   ·have z1:Zms w9 qs (ldL (en c zs) gs.length) (64*k+7):=by
     have tyk:∀(b:Nat) (L:Array Value) (fr:Nat×Nat),W.heap[b]?=some (.cells L 58 fr)→w9.heap[b]?=some (.cells L 58 fr):=fun b L fr e=>by
      have e1:=c4.2.2 b L _ fr e (by decide) (by decide) (by decide) (fun q=>by
       subst q;have:=e.symm.trans (show W.heap[b]?=_ from K6.out.1);simp only [Option.some.injEq,Obj.cells.injEq] at this;exact absurd this.2.1 (by decide))
      have e2:=(hX.block b (Array.getElem?_eq_some_iff.1 e1).1).trans e1;exact ty.2 b L _ fr e2 (by decide)
     refine ⟨H7.out.1,fun j p z hp hz=>?_⟩;obtain ⟨n1,zs1,a1,c1',e1,hm1,rest⟩:=H7.out.2 j p z hp hz;refine ⟨n1,zs1,a1,c1',e1,?_,rest⟩;obtain ⟨hw1,h | ⟨g1,r1,cap1,p1,p2,p3,p4,p5,p6⟩⟩:=hm1
     ·exact ⟨hw1,.inl h⟩
     ·exact ⟨hw1,.inr ⟨g1,r1,cap1,p1,p2,p3,p4,p5,tyk g1 _ _ p6⟩⟩
    have z2:Zms w9 [(x,y)] [det (gs.length+1) (en c zs)] (64*k+7):=by
     refine ⟨rfl,fun j p z hp hz=>?_⟩;have hj:j=0:=by have:=(List.getElem?_eq_some_iff.1 hp).1;simp at this;omega
     subst hj;simp only [List.getElem?_cons_zero,Option.some.injEq] at hp hz;subst hp hz;have hl:=c2.lead (show gs.length+1≤c by omega);rw [hl];exact hm.ty ty (by decide)
    rw [List.length_append,List.length_singleton,ldL_succ];exact (z1.append z2).ty tz' (by decide)
   ·intro b hb'
    simp only [Value.ownBlock,Option.some.injEq] at hb';subst hb';refine ⟨fun hm'=>?_,?_⟩
    ·rcases hb with q | q
     ·obtain ⟨_,_,q3,q4⟩:=hob _ q
      rcases List.mem_append.1 hm' with q5 | q5
      ·exact q3 q5
      ·exact q4 (by simpa using q5)
     ·have:=hlow _ hm'
      omega
    ·rcases hb with q | q
     ·exact (H8.out _ q).2
     ·exact .inr (by have:=K4.out;omega)
   ·have b1:Below w.heap.size W Y:=⟨c4.1.os,c4.1.tape,c4.1.output,c4.1.size,fun b hb'=>c4.1.block b (by omega) (fun q=>by rcases q with q | q <;> omega)⟩
    have b3:Below w.heap.size X w9:=⟨hg.os,hg.tape,hg.output,hg.size,fun b hb'=>hg.block b (by omega) (fun q=>by have:=(hob b q.symm).1;omega)⟩
    have b4:Below w.heap.size w9 U:=by rw [←hU];exact bset (Below.refl _ _) (by omega)
    exact (((HW.out.trans b1).trans (hX.mono (by omega))).trans b3).trans b4
   ·have hbW:=(Array.getElem?_eq_some_iff.1 e).1
    have n1:b≠w1.heap.size:=fun q=>hne (.inl q)
    have n2:b≠w2.heap.size:=fun q=>hne (.inr (.inl q))
    have n3:b≠w2.heap.size+1:=fun q=>hne (.inr (.inr q))
    have e1:=(c4.1.block b hbW (fun q=>by rcases q with q | q <;> omega)).trans e;refine (st b (by omega) (fun q=>?_) n3).trans e1;rcases (H8.out b q).2 with r | r <;> omega
  have hwg:=zNA (i:=gs.length) (by omega);clear HC c1 c2 c3 c4 H5 H6 H7 H8 H4 H3 HLG K4 K6 K3;gi_wp2_with fail;have KB:Hid (∀w',Below Y.heap.size Y w'→w'.cell? ⟨w2.heap.size+1,0,none⟩=some lv):=fun w' h=>cnow h y0
  refine zAD (by kernel_rfl) (zaE (by kernel_rfl)) (by first | (rintro ⟨a,w,h⟩;cases h.1) | (rintro ⟨a,w,h⟩;exact h)) (wpAny_of_tail (S:=fun w'=>w'.cell? ⟨w2.heap.size+1,0,none⟩=some lv) (n:=6) _ _ _ _ ?_);obtain ⟨D31,hD⟩:∃D31,Y.drew=D31:=⟨_,rfl⟩
  have GB:Hid (Below Y.heap.size Y D31):=by unfold Hid;rw [←hD];exact (Below.refl _ _).drew
  rw [hD];clear hD;refine zAA (i:=0) (oi:=⟨some 23,.load 22 (.tmp 6),22, "bareiss.go:56",#[],none⟩) (v:=lv) rfl (by kernel_rfl) (fun _ _ _ h=>h) (Or.inl ⟨by rfl,?_⟩) (KB.out _ GB.out) ?_
  ·intro w hSw;(try dsimp only at hSw);go_simp
  simp only [Act.put,sIb,sC0,sC1];refine zAA (i:=1) (oi:=⟨some 24,.move (.tmp 7),3, "bareiss.go:56",#[],none⟩) (v:=(.int .i64 (gs.length:Int))) rfl (by kernel_rfl) (fun _ _ _ h=>h) (Or.inl ⟨by rfl,?_⟩) (KB.out _ GB.out) ?_
  ·intro w hSw;(try dsimp only at hSw);go_simp
  simp only [Act.put,sIb,sC0,sC1];refine zAA (i:=2) (oi:=⟨some 25,.binOp .add 3 (.tmp 24) (.const (.int .i64 1)) 3,3, "bareiss.go:56",#[⟨1,.data⟩],none⟩) (v:=(.int .i64 ((gs.length+1:Nat):Int))) rfl (by kernel_rfl) (fun _ _ _ h=>h) (Or.inl ⟨by rfl,?_⟩) (KB.out _ GB.out) ?_
  ·intro w hSw;(try dsimp only at hSw);go_simp
  simp only [Act.put,sIb,sC0,sC1];refine zCA (i:=3) (o:=⟨some 26,.call { callee:=.value (.func 28),args:=#[.tmp 5,.tmp 25],argTypes:=#[50,3] },39, "bareiss.go:56",#[⟨2,.data⟩],none⟩) (by kernel_rfl) rfl (fun K hK=>?_);go_simp;go_at_call 28;refine (ziD (kk:=gs.length+1) (S1.out.now GB.out) Z1.out (by omega) hc (Nat.le_trans Z1.out.le (by omega)) (by omega)).mono ?_;rintro e w32 ⟨r0,rfl,m1,b⟩;have lz32:=(show Below _ _ _ from b).size;replace GB:=hid (zBA GB.out b);obtain ⟨nr,xr,ar,cr,rfl⟩:=m1.parts;have M1:=hid (m1.mono (Nat.zero_le _));clear m1;clear b;refine hK.out _ _ (fun _=>KB.out _ GB.out) ?_;clear hK;refine zCA (i:=4) (o:=⟨some 27,.buildSlice 22 1 #[(0,.tmp 26)],22, "bareiss.go:56",#[⟨3,.data⟩],none⟩) (by kernel_rfl) rfl (fun K hK=>?_);go_simp;obtain ⟨V33,hW⟩:∃V33,w32.alloc (duo (.bool nr) (.slice ar xr.length cr))=V33:=⟨_,rfl⟩
  obtain ⟨b,sz33⟩:=alo1 w32 (duo (.bool nr) (.slice ar xr.length cr));rw [hW] at b sz33;have PN:Hid (Duo V33 w32.heap.size (.bool nr) (.slice ar xr.length cr)):=by unfold Hid;rw [←hW];exact Duo.new w32 _ _
  replace M1:=hid (M1.out.now b);replace GB:=hid (zBA GB.out b);rw [hW];clear hW b sz33;refine hK.out _ _ (fun _=>KB.out _ GB.out) ?_;clear hK
  try simp only [Act.put]
  refine zCA (i:=5) (o:=⟨some 28,.call { callee:=.builtin .append,args:=#[.tmp 23,.tmp 27],argTypes:=#[22,22] },22, "bareiss.go:56",#[⟨0,.data⟩,⟨4,.data⟩,⟨3,.chain⟩],none⟩) (by kernel_rfl) rfl (fun K hK=>?_);have hq0:=PN.out.c0;have hq1:=PN.out.c1;refine zAB V33 rfl (.tmp 23) (.tmp 27) rfl w.heap.size lv qs rfl (O1.out.keep13 (fun b _ hb=>GB.out.block b hb)) w32.heap.size (.bool nr) (.slice ar xr.length cr) rfl hq0 hq1 ⟨_,_,_,_,rfl⟩ HQL.out (by have:=GB.out.size;have:=HWY.out;omega) ?_;intro g' l' cap' w9 hl' hO hg hb;clear hq0 hq1;have FA:=hid (HAP.out V33 g' l' cap' w9 (.bool nr) (.slice ar xr.length cr) GB.out M1.out hO.out hg.out hb.out);clear hO hg hb PN M1 hl';refine hK.out _ _ (fun _=>FA.out.1.at (i:=0) rfl) ?_;clear hK;refine zCA (i:=6) (o:=⟨none,.store 22 (.tmp 6) (.tmp 28),0, "bareiss.go:56",#[⟨5,.data⟩,⟨5,.chain⟩,⟨0,.phase⟩,⟨1,.phase⟩,⟨2,.phase⟩,⟨3,.phase⟩,⟨4,.phase⟩,⟨5,.phase⟩],none⟩) (by kernel_rfl) rfl (fun K hK=>?_);have e0:=FA.out.1.at (i:=0) rfl;have e1:=FA.out.1.fz 0;go_simp;clear e0 e1;obtain ⟨V34,hW⟩:∃V34,(w9.setCell ⟨w2.heap.size+1,0,none⟩ (.slice (some ⟨g',0,none⟩) l' cap'))=V34:=⟨_,rfl⟩
  have FB:=hid FA.out.2;rw [hW] at FB;rw [hW];clear hW;refine hK.out _ _ (fun h=>absurd h (by decide)) ?_;clear hK
  try simp only [Act.put]
  refine zFA (by kernel_rfl) ?_ _;clear KB GB FA;gi_wp2;exact FB.out
 case done =>
  rintro D ⟨B,gs⟩ W hDs hl ⟨rs,cs,odd,ks,lv,qs,h1,h2,h3,h4,h5,h6,h7,h8,h9,h10,h11,h12⟩ hD;dsimp only at hl h1 h2 h3 h4 h6 h7 h8 h9 h11 h12;have x0:=h5.at (i:=0) rfl;have kg:=ztA (grownBy_putObj' W D (.deferred none)) (fun r e=>by cases e;exact ⟨_,hD,rfl⟩);have BB:=h10.trans (belowK_b (w:=w) (Nat.le_refl _) _ D _ (.deferred none) (by have:=G1.out.size;omega) hD rfl rfl);have HZ:Hid (zgG w c zs (64*k+7) (.returned (.tuple #[lv,.int .i64 0])) (W.putObj D (.deferred none))):=by
   rw [hl] at h7;exact ⟨lv,qs,rfl,h6.keep13 (fun b hb _=>by obtain ⟨_,_,L,e⟩:=h6.blk hb;rw [e];exact kg.2 b _ e rfl),h7.kc kg,BB⟩
  have HK:=hid hD;clear h1 h2 h3 h4 h5 h6 h7 h8 kg BB hD;gi_wp2;refine ⟨by simp,.inl ⟨_,_,rfl,run_takeDeferred HK.out,?_⟩⟩;exact ⟨_,by simp [results,Tryz.results11,go_sem],HZ.out⟩
end Go.Proofs.YtjnokjgbeploaaaGreat
