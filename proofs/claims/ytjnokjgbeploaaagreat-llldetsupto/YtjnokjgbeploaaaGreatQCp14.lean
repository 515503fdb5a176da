import Derived.Test.YtjnokjgbeploaaaGreatQMi14ToCj14
set_option maxRecDepth 100000
set_option maxHeartbeats 6400000
set_option linter.unusedVariables false
set_option linter.unusedSimpArgs false
namespace Go.Proofs.YtjnokjgbeploaaaGreat
open Go.RowKit Go.Shelf
attribute [local go_sem] Oper.semAt_some
def Cpd (w:World) (A:Nat→Nat→Int) (m n k KW:Nat) (e:Ending) (w':World):Prop :=
 ∃v ps,e=.returned (.agg #[.int .i64 (cho m k:Nat),.int .i64 (cho n k:Nat),v])∧OwnP w.heap.size w' v ps∧Zms w' ps (cpL A m n k (cho n k) (cho m k) 0) KW∧Below w.heap.size w w'
theorem compound_any {w:World} {va:Value} {m n k kk:Nat} {zs:List Int} (ha:Mx w va m n zs kk) (hkk:64*kk+7≤4000000000) (hkm:k≤m) (hkn:k≤n) (hc1:cho m k≤64) (hc2:cho n k≤64) :
  Calls Tryz.prog 32 #[va,.int .i64 (k:Int)] w (Cpd w (en n zs) m n k (64*kk+7)):=by
 refine (callsIn_wide (n:=6)).1 ?_;have M0:=ha;obtain ⟨aa,ca,rfl,hm64,hn64⟩:=ha.form;have HZA:Hid (∀z∈zs,(z.natAbs:Int)<pw kk):=by obtain ⟨_,_,_,_,h,_⟩:=ha;exact h.lt
 obtain ⟨la,hla⟩:∃la,m*n=la:=⟨_,rfl⟩
 rw [hla] at M0 ⊢;obtain ⟨W0,hW⟩:∃W0,((w.alloc (matO m n (.slice aa la ca))).alloc (.cells #[.int .i64 (k:Int)] 3)).alloc mbox=W0:=⟨_,rfl⟩
 obtain ⟨b0,sz0⟩:=znB w (matO m n (.slice aa la ca)) (.cells #[.int .i64 (k:Int)] 3) mbox;rw [hW] at b0 sz0;have PA:Hid (Cel W0 w.heap.size 24 (matc m n (.slice aa la ca))):=by
  unfold Hid;rw [←hW];exact ((Cel.new w 24 (matc m n (.slice aa la ca))).step ((Below.refl _ _).alloc (Nat.le_refl _) _)).step ((Below.refl _ _).alloc (Nat.le_refl _) _)
 have PK:Hid (Cel W0 (w.heap.size+1) 3 [.int .i64 (k:Int)]):=by
  unfold Hid;rw [←hW];have:=(Cel.new (w.alloc (matO m n (.slice aa la ca))) 3 [.int .i64 (k:Int)]).step ((Below.refl _ _).alloc (Nat.le_refl _) mbox)
  simpa using this
 have PR:Hid (Cel W0 (w.heap.size+1+1) 24 [.int .i64 0,.int .i64 0,.slice none 0 0]):=by
  unfold Hid;rw [←hW];have:=Cel.new ((w.alloc (matO m n (.slice aa la ca))).alloc (.cells #[.int .i64 (k:Int)] 3)) 24 [.int .i64 0,.int .i64 0,.slice none 0 0]
  simpa using this
 have MA:=hid (M0.now b0);have G:=hid b0;have HCH:=hid (zaB (w:=W0) hn64 hkn);have x1:=PA.out.at (i:=1) rfl;have x2:=PK.out.at (i:=0) rfl;rw [←hW] at x1 x2;have EW:=hid hW;have SZ:=hid sz0;have hwc:IntKind.i64.wrap ((cho n k:Nat):Int)=((cho n k:Nat):Int):=by rw [zaA] <;> omega
 clear ha M0 b0 sz0 hW hla;refine callsIn_of_wp_marks Tryz.func32 rfl trivial ?_ rfl;simp only [Tryz.ntmps32,List.size_toArray,List.length_cons,List.length_nil,Nat.reduceAdd,Nat.reduceSub,Array.replicate_succ,Array.replicate_zero,List.push_toArray,List.append_toArray,List.nil_append,List.cons_append];gi_wp2_with fail;rw [EW.out];clear EW x1 x2;refine ⟨trivial,(callsIn_wide.2 HCH.out).mono ?_⟩;rintro e w1 ⟨rfl,b⟩;obtain ⟨C,hC⟩:∃C,cho n k=C:=⟨_,rfl⟩
 have EC:=hid hC;rw [hC] at hwc hc2;obtain ⟨V1,hV1⟩:∃V1,w1.alloc (.cells #[.int .i64 0,.int .i64 (C:Int),.slice none 0 0] 24)=V1:=⟨_,rfl⟩
 obtain ⟨b1,sz1⟩:=alo1 w1 (.cells #[.int .i64 0,.int .i64 (C:Int),.slice none 0 0] 24);rw [hV1] at b1 sz1;have PL:Hid (Cel V1 w1.heap.size 24 [.int .i64 0,.int .i64 (C:Int),.slice none 0 0]):=by unfold Hid;rw [←hV1];exact Cel.new w1 _ _
 replace PA:=hid ((PA.out.step b).step b1);replace PK:=hid ((PK.out.step b).step b1);replace PR:=hid ((PR.out.step b).step b1);replace MA:=hid ((MA.out.now b).now b1);replace G:=hid (zBA (zBA G.out b) b1);have lzV1:Hid (w1.heap.size<V1.heap.size):=by unfold Hid;omega
 have lz1:Hid (w.heap.size+1+1<w1.heap.size):=by unfold Hid;have:=b.size;have:=SZ.out;omega
 have HTF:=hid (tableFor_any (kk:=(k:Int)) MA.out (by omega) (by omega) (by omega) (by omega));have x0:=PA.out.at (i:=0) rfl;have x1:=PA.out.at (i:=1) rfl;have x2:=PA.out.at (i:=2) rfl;have x3:=PK.out.at (i:=0) rfl;rw [←hV1] at x0 x1 x2 x3;have EV:=hid hV1;rw [hC];clear b b1 sz1 hV1 HCH hC;gi_wp2_with fail;rw [EV.out];clear EV x0 x1 x2 x3;refine ⟨trivial,(callsIn_wide.2 HTF.out).mono ?_⟩;rintro e w2 ⟨vt,rfl,htf,b⟩;obtain ⟨bt,ga,gb,go,bs,os,F,d,rk,rfl,hbt,htm,htb,hrk⟩:=htf;obtain ⟨V2,hV2⟩:∃V2,w2.alloc (.cells #[.pointer (some ⟨bt,0,none⟩)] 84)=V2:=⟨_,rfl⟩
 obtain ⟨b2,sz2⟩:=alo1 w2 (.cells #[.pointer (some ⟨bt,0,none⟩)] 84);rw [hV2] at b2 sz2;have PT:Hid (Cel V2 w2.heap.size 84 [.pointer (some ⟨bt,0,none⟩)]):=by unfold Hid;rw [←hV2];exact Cel.new w2 _ _
 replace PA:=hid ((PA.out.step b).step b2);replace PK:=hid ((PK.out.step b).step b2);replace PR:=hid ((PR.out.step b).step b2);replace PL:=hid ((PL.out.step b).step b2);replace G:=hid (zBA (zBA G.out b) b2);have lz2:Hid (w1.heap.size<w2.heap.size):=by unfold Hid;have h1:=b.size;have h2:=lzV1.out;omega
 have lzV2:Hid (w2.heap.size<V2.heap.size):=by unfold Hid;omega
 have TM:=hid (htm.now b2);have TB:=hid htb;have HRK:=hid hrk;have HST:=hid (zDG (w:=V2) (n:=m) (k:=k));have x0:=PA.out.at (i:=0) rfl;have x3:=PK.out.at (i:=0) rfl;rw [←hV2] at x0 x3;have EV:=hid hV2;clear b b2 sz2 hV2 HTF htm htb hrk hbt MA;gi_wp2_with fail;rw [EV.out];clear EV x0 x3;refine ⟨trivial,(callsIn_wide.2 HST.out).mono ?_⟩;rintro e w3 ⟨bn,bk,rfl,cn,ck,hbn,hbk,b⟩;replace PA:=hid (PA.out.step b);replace PK:=hid (PK.out.step b);replace PR:=hid (PR.out.step b);replace PL:=hid (PL.out.step b);replace PT:=hid (PT.out.step b);replace TM:=hid (TM.out.now b);replace G:=hid (zBA G.out b);have CN:=hid cn;have CK:=hid ck;have lz3:Hid (w2.heap.size<w3.heap.size):=by unfold Hid;have h1:=b.size;have h2:=lzV2.out;omega
 have lbn:Hid (V2.heap.size≤bn∧V2.heap.size≤bk):=⟨hbn,hbk⟩
 obtain ⟨ba,hba⟩:∃ba,w.heap.size=ba:=⟨_,rfl⟩
 obtain ⟨bk0,hbk0⟩:∃bk0,ba+1=bk0:=⟨_,rfl⟩
 obtain ⟨br,hbr⟩:∃br,bk0+1=br:=⟨_,rfl⟩
 obtain ⟨bA,hbA⟩:∃bA,w1.heap.size=bA:=⟨_,rfl⟩
 obtain ⟨bT,hbT⟩:∃bT,w2.heap.size=bT:=⟨_,rfl⟩
 rw [hba,hbk0] at PK;rw [hba,hbk0,hbr] at PR;rw [hba] at PA;rw [hbA] at PL;rw [hbT] at PT;have EBA:=hid hba;have hbn':bT<bn:=by have:=lzV2.out;omega
 have hbk':bT<bk:=by have:=lzV2.out;omega
 have o1:ba<bk0:=by omega
 have o2:bk0<br:=by omega
 have o3:br<bA:=by have:=lz1.out;omega
 have o4:bA<bT:=by have:=lz2.out;omega
 have o5:bT<w3.heap.size:=by have:=lz3.out;omega
 have O1:Hid (ba<bk0∧bk0<br∧br<bA∧bA<bT∧bT<w3.heap.size∧bT<bn∧bT<bk):=⟨o1,o2,o3,o4,o5,hbn',hbk'⟩
 rw [hba,hbk0,hbr,hbA,hbT];clear HST cn ck b hbn hbk hba hbk0 hbr hbA hbT o1 o2 o3 o4 o5 hbn' hbk' lz1 lz2 lz3 lzV1 lzV2 lbn SZ;gi_wp2_with fail;obtain ⟨R,hR⟩:∃R,cho m k=R:=⟨_,rfl⟩
 have ER:Hid ((zXA m k).length=R):=by unfold Hid;rw [←hR];exact zBF m m k
 have ECC:Hid ((zXA n k).length=C):=by unfold Hid;rw [←EC.out];exact zBF n n k
 have ERR:=hid hR;rw [hR] at hc1;obtain ⟨KW,hKW⟩:∃KW,64*kk+7=KW:=⟨_,rfl⟩
 have EKW:=hid hKW;rw [hKW] at TM hkk ⊢;have HFIT:Hid (∀f,((dcl (en n zs) m n f).natAbs:Int)<pw KW):=fun f=>by rw [←hKW];exact zcH HZA.out hm64
 clear hR hKW;refine rangeH (σ:=Nat×Nat) (α:=Value) (by decide) rfl (enters_of Tryz.func70 (by kernel_rfl) rfl) (fun x=>#[x]) (fun _=>rfl)
  (CJo w w3 ba br bA (matc m n (.slice aa la ca)) (en n zs) m n k R C KW) (CJo.own (by have:=O1.out;have:=EBA.out;omega)) (AtS m k) (fun s x=>AtS.own s x) (fun s _=>(s.1,s.2+1))
  (fun s=>KpL (· = bA) s.1) (fun h h'=>h.trans h') (fun s W l o o' _ h1 h2=>KpL.put h1 h2)
  (fun s gs A=>gs<s.1∧∃L,A.heap[gs]?=some (.cells L 3 (0,0))) (fun s A B gs h h1 h2 t=>?js) (fun s=>s.2=0∧w3.heap.size≤s.1) (fun s=>s.2=R) ?ini ?it
  (fun x a' W=>∃brow,w3.heap.size≤brow∧Cel W brow 47 [x]∧a'={ tmps:=#[matv m n (.slice aa la ca),.int .i64 (k:Int),.pointer (some ⟨ba,0,none⟩),.pointer (some ⟨bk0,0,none⟩),.pointer (some ⟨br,0,none⟩),.pointer (some ⟨bA,0,none⟩),.pointer (some ⟨bT,0,none⟩),.pointer (some ⟨brow,0,none⟩),undef,.pointer (some ⟨ba,1,none⟩),.int .i64 (n:Int),.int .i64 (k:Int),.int .u64 (C:Int),.int .i64 (C:Int),.agg #[.int .i64 0,.int .i64 (C:Int),.slice none 0 0],.agg #[.int .i64 (m:Int),.int .i64 (n:Int),.slice aa la ca],.int .i64 (k:Int),.pointer (some ⟨bt,0,none⟩),.pointer (some ⟨ba,0,none⟩),.int .i64 (m:Int),.int .i64 (k:Int),.func (.func 70) #[] #[.pointer (some ⟨bn,0,none⟩),.pointer (some ⟨bk,0,none⟩)],x,undef,undef,undef,undef,undef,undef,undef,undef,undef,undef,undef,undef,undef,undef,undef,undef,undef,undef,undef],defers:=[] }) (fun x a' _ W W' row hs hg hr=>?ax) ?assign ?body ?done
 case js =>
  obtain ⟨q1,q2,v,q3⟩:=h;obtain ⟨_,L,hL⟩:=h2;exact ⟨q1,q2,v,q3.tou h1 hL t (by have:=O1.out;have:=EBA.out;omega)⟩
 case ini =>
  rintro ⟨B,t⟩ ⟨rfl,hB⟩;refine ⟨hB,Nat.zero_le _,.slice none 0 0,Ty.of (Below.refl _ _),PA.out,PR.out,PL.out,⟨[],World.ownsRow_nil _ _ _ _,rfl,fun j p z hp=>by simp at hp⟩,G.out⟩
 case it =>
  intro l J' W hW hJ hJb hJs' hJ0 hY;have o:=O1.out;have hh:=(zEG (S:=(· = bA)) (nn:=5) (l:=l) (by decide) hm64 hkm J' ((CN.out.step hW).at (i:=0) rfl) ((CK.out.step hW).at (i:=0) rfl) (by show ¬bn=bA;omega) (by show ¬bk=bA;omega) hJb (fun s A B gs h h1 h2 t=>hJs' s A B gs h h1 h2 t) (fun B hB=>hJ0 _ ⟨rfl,Nat.le_trans hW.size hB⟩) (fun b hb=>by have hb':b=bA:=hb;have:=hW.size;omega) (fun s x X h1 h2=>hY s x X h1 h2))
  refine hh.mono fun e Y h=>?_
  rw [ER.out] at h;exact h
 case ax =>
  obtain ⟨brow,q1,q2,q3⟩:=hs;exact ⟨brow,q1,(ztA hg fun r e=>(hr r e).2).cel q2,q3⟩
 case assign =>
  intro l s x W K hj hat hK;obtain ⟨ax,cx,hx,-,-⟩:=hat.2.2.form;obtain ⟨lx_,hlx⟩:∃lx_,((zXA m k).getD s.2 []).length=lx_:=⟨_,rfl⟩
  rw [hlx] at hx;subst hx;have b1:=(alo1 W (.cells #[.slice ax lx_ cx] 47)).1;have HKK:=hid (hK { tmps:=#[matv m n (.slice aa la ca),.int .i64 (k:Int),.pointer (some ⟨ba,0,none⟩),.pointer (some ⟨bk0,0,none⟩),.pointer (some ⟨br,0,none⟩),.pointer (some ⟨bA,0,none⟩),.pointer (some ⟨bT,0,none⟩),.pointer (some ⟨W.heap.size,0,none⟩),undef,.pointer (some ⟨ba,1,none⟩),.int .i64 (n:Int),.int .i64 (k:Int),.int .u64 (C:Int),.int .i64 (C:Int),.agg #[.int .i64 0,.int .i64 (C:Int),.slice none 0 0],.agg #[.int .i64 (m:Int),.int .i64 (n:Int),.slice aa la ca],.int .i64 (k:Int),.pointer (some ⟨bt,0,none⟩),.pointer (some ⟨ba,0,none⟩),.int .i64 (m:Int),.int .i64 (k:Int),.func (.func 70) #[] #[.pointer (some ⟨bn,0,none⟩),.pointer (some ⟨bk,0,none⟩)],(.slice ax lx_ cx),undef,undef,undef,undef,undef,undef,undef,undef,undef,undef,undef,undef,undef,undef,undef,undef,undef,undef,undef],defers:=[] } (W.alloc (.cells #[.slice ax lx_ cx] 47)) ((KeepsOthers.alloc _ _).from _) (KpL.of b1) (by
   obtain ⟨q1,q2,v,q3⟩:=hj;exact ⟨q1,q2,v,q3.now b1⟩) (by
   obtain ⟨q1,q2,q3⟩:=hat;exact ⟨q1,Nat.le_trans q2 b1.size,q3.now b1⟩) ⟨W.heap.size,by
    obtain ⟨q1,q2,v,q3⟩:=hj;exact q3.ty.1,Cel.new W _ _,rfl⟩)
  clear hK b1 hlx;gi_wp2;exact HKK.out
 case body =>
  rintro l ⟨B1,t⟩ x a' W hl ⟨r0,hr0⟩ ⟨hB1,htR,v,hcp⟩ ⟨ht,hBs,hrows⟩ ⟨brow,hbrow,crow,rfl⟩;dsimp only at hB1 htR hcp ht hBs hrows ⊢;have o:=O1.out;obtain ⟨rm1,rm2,rm3⟩:=zaF ht;obtain ⟨rows,hrw⟩:∃rows,(zXA m k).getD t []=rows:=⟨_,rfl⟩
  rw [hrw] at hrows rm1 rm2 rm3;have ERW:=hid hrw;obtain ⟨ax,cx,hx,-,-⟩:=hrows.form;rw [rm1] at hx;subst hx;obtain ⟨U1,hU1⟩:∃U1,W.setCell ⟨bA,0,none⟩ (.int .i64 ((t:Int)+1))=U1:=⟨_,rfl⟩
  have sU1:U1.heap.size=W.heap.size:=by rw [←hU1];simp
  have tyU:Ty 24 W U1:=by rw [←hU1];exact Ty.set hcp.all
  have cp1:CpJ w w3 ba br bA (matc m n (.slice aa la ca)) (t+1) C (cpL (en n zs) m n k C t 0) KW B1 U1 v:=by rw [←hU1,show ((t:Int)+1)=((t+1:Nat):Int) by omega];exact hcp.setR ⟨by omega,by omega⟩ (by have:=EBA.out;omega)
  have CP1:=hid cp1;have cr1:Cel U1 brow 47 [.slice ax k cx]:=crow.ty13 tyU (by decide);have iv1:Ivs 0 U1 (.slice ax k cx) rows:=hrows.keep fun b L _ e=>tyU.2 b _ _ _ e (by decide)
  have CR1:=hid cr1;have IV1:=hid iv1;have HL0:Hid (U1.heap[l]?=some (.loop r0)):=by
   unfold Hid;rw [←hU1];refine (Below.heap_setCell W ⟨bA,0,none⟩ _ l (fun q=>?_)).trans hr0;have q':l=bA:=by simpa using q
   omega
  have KST:Hid (∀wi,Below U1.heap.size U1 wi→KeepsFrom w3.heap.size W wi∧KpL (· = bA) B1 W wi):=fun wi b=>by rw [←hU1] at b;exact keeps_start hcp.all b
  have hvo:∀b,v.ownBlock=some b→b<W.heap.size:=fun b hb=>by obtain ⟨ps,q1,-⟩:=hcp.own;exact (q1.blk14 hb).2.1
  have HVO:=hid hvo;have HRO:Hid (∀b,(Value.slice ax k cx).ownBlock=some b→b<U1.heap.size):=fun b hb=>iv1.lt13 hb
  have hbrW:=crow.blk;have HST2:=hid (zDG (w:=U1) (n:=n) (k:=k));have g0:=hcp.all.at (i:=0) rfl;have g1:=hcp.all.fz 0;have g2:=cp1.a.at (i:=1) rfl;have g3:=(PK.out.ty13 cp1.ty (by decide)).at (i:=0) rfl;rw [←hU1] at g2 g3;have hwt:=zNA (i:=t) (by omega);have EU:=hid hU1;have HT:=hid ht;have HRM:=hid (⟨rm1,rm2,rm3⟩:rows.length=k∧rows.Pairwise (· < ·)∧∀x∈rows,x<m);clear hcp crow hrows hr0 hU1 tyU cp1 cr1 iv1 hvo hrw ht rm1 rm2 rm3;gi_wp2_with fail;rw [EU.out];clear EU g0 g1 g2 g3;refine ⟨trivial,(CallsIn.inRound l (callsIn_wide.2 HST2.out)).mono ?_⟩;rintro e wi ⟨bn2,bk2,rfl,cn2,ck2,hbn2,hbk2,b⟩;have CN2:=hid cn2;have CK2:=hid ck2;have BI:=hid b;have hwi:=b.size;have hwL:w3.heap.size≤W.heap.size:=by omega
  clear HST2 cn2 ck2 b;gi_wp2_with fail;refine rangeN (σ:=Nat×Nat) (α:=Value) (l₀:=l) (r₀:=r0) ((BI.out.block l (Array.getElem?_eq_some_iff.1 HL0.out).1).trans HL0.out) (by decide) rfl (enters_of Tryz.func70 (by kernel_rfl) rfl) (fun x=>#[x]) (fun _=>rfl)
   (CJi w w3 W wi ba br bA brow (matc m n (.slice aa la ca)) (en n zs) m n k C KW B1 t v (.slice ax k cx) rows) (CJi.own (by have:=EBA.out;omega) (by omega)) (AtS n k) (fun s x=>AtS.own s x) (fun s _=>(s.1,s.2+1))
   (fun s=>KpL (fun b=>b=bA∨v.ownBlock=some b) s.1) (fun h h'=>h.trans h') (fun s W l o o' _ h1 h2=>KpL.put h1 h2)
   (fun s gs A=>gs<s.1∧∃L,A.heap[gs]?=some (.cells L 3 (0,0))) (fun s A B gs h h1 h2 t=>?js2) (fun s=>s.2=0∧wi.heap.size≤s.1) (fun s=>s.2=C) ?ini2 ?it2
   (fun y=>{ tmps:=#[matv m n (.slice aa la ca),.int .i64 (k:Int),.pointer (some ⟨ba,0,none⟩),.pointer (some ⟨bk0,0,none⟩),.pointer (some ⟨br,0,none⟩),.pointer (some ⟨bA,0,none⟩),.pointer (some ⟨bT,0,none⟩),.pointer (some ⟨brow,0,none⟩),y,.pointer (some ⟨ba,1,none⟩),.int .i64 (n:Int),.int .i64 (k:Int),.int .u64 (C:Int),.int .i64 (C:Int),.agg #[.int .i64 0,.int .i64 (C:Int),.slice none 0 0],.agg #[.int .i64 (m:Int),.int .i64 (n:Int),.slice aa la ca],.int .i64 (k:Int),.pointer (some ⟨bt,0,none⟩),.pointer (some ⟨ba,0,none⟩),.int .i64 (m:Int),.int .i64 (k:Int),.func (.func 70) #[] #[.pointer (some ⟨bn,0,none⟩),.pointer (some ⟨bk,0,none⟩)],(.slice ax k cx),.pointer (some ⟨bA,0,none⟩),.int .i64 (t:Int),.int .i64 ((t:Int)+1),.pointer (some ⟨bA,0,none⟩),.pointer (some ⟨ba,1,none⟩),.int .i64 (n:Int),.int .i64 (k:Int),.func (.func 70) #[] #[.pointer (some ⟨bn2,0,none⟩),.pointer (some ⟨bk2,0,none⟩)],y,undef,undef,undef,undef,undef,undef,undef,undef,undef,undef],defers:=[] }) ?assign2 ?body2 ?done2
  case js2 =>
   obtain ⟨_,L,hL⟩:=h2;exact h.tou h1 hL t (by have:=EBA.out;omega) (by omega) (fun b hb=>by have:=HRO.out b hb;omega) (by omega)
  case ini2 =>
   rintro ⟨B2,u⟩ ⟨rfl,hB2⟩;exact ⟨hB2,Nat.zero_le _,CR1.out.step BI.out,IV1.out.now BI.out,(KST.out _ BI.out).1,(KST.out _ BI.out).2,v,CP1.out.now BI.out,fun b hb=>.inl (.inr hb)⟩
  case it2 =>
   intro l2 J' X hX hJ hJb hJs' hJ0 hY;have hh:=(zEG (S:=fun b=>b=bA∨v.ownBlock=some b) (nn:=3) (l:=l2) (by decide) hn64 hkn J' ((CN2.out.step hX).at (i:=0) rfl) ((CK2.out.step hX).at (i:=0) rfl)
    (by rintro (q | q);(· omega);(· have:=HVO.out _ q;omega)) (by rintro (q | q);(· omega);(· have:=HVO.out _ q;omega)) hJb (fun s A B gs h h1 h2 t=>hJs' s A B gs h h1 h2 t) (fun B hB=>hJ0 _ ⟨rfl,Nat.le_trans hX.size hB⟩)
    (fun b hb=>by have:=hX.size;rcases hb with q | q;(· omega);(· have:=HVO.out _ q;omega)) (fun s x X h1 h2=>hY s x X h1 h2))
   refine hh.mono fun e Y h=>?_
   rw [ECC.out] at h;exact h
  case assign2 =>
   intro l2 y X K hK;have HKK:=hid hK;clear hK;gi_wp2;exact HKK.out
  case done2 =>
   rintro ⟨B2,u⟩ X hfin ⟨q1,q2,q3,q4,q5,q6,v2,q7,q8⟩;dsimp only at hfin q7;subst hfin;rw [zeH] at q7;have FIN:Hid (KeepsFrom w3.heap.size W X∧CJo w w3 ba br bA (matc m n (.slice aa la ca)) (en n zs) m n k R u KW (B1,t+1) X∧KpL (· = bA) B1 W X):=⟨q5,⟨hB1,by have:=HT.out;rw [ER.out] at this;omega,v2,q7⟩,q6⟩
   clear q1 q2 q3 q4 q5 q6 q7 q8;gi_wp2;exact FIN.out
  case body2 =>
   rintro l2 ⟨B2,u⟩ y X ⟨hB2,huC,crow2,hiv2,hkf,hkp,v2,hcp2,hob⟩ ⟨hu,hBs2,hcols⟩;dsimp only at hB2 huC hcp2 hob hu hBs2 hcols ⊢;obtain ⟨cm1,cm2,cm3⟩:=zaF hu;obtain ⟨cols,hcw⟩:∃cols,(zXA n k).getD u []=cols:=⟨_,rfl⟩
   rw [hcw] at hcols cm1 cm2 cm3;obtain ⟨ay,cy,hy,-,-⟩:=hcols.form;rw [cm1] at hy;subst hy;obtain ⟨ps,hps,hzs⟩:=hcp2.own;have hpl:ps.length≤1048576:=by
    have h1:ps.length=(cpL (en n zs) m n k C t u).length:=hzs.1;rw [cpL_len] at h1;have h2:t*C≤64*64:=Nat.mul_le_mul (by omega) hc2;omega
   obtain ⟨av,lv,cv,hv2⟩:∃av lv cv,v2=.slice av lv cv:=by
    obtain ⟨_,⟨r2,_⟩ | ⟨g2,cap,cur,r2,r3,r4,r5⟩⟩:=hps
    ·exact ⟨_,_,_,r2⟩
    ·exact ⟨_,_,_,r2⟩
   subst hv2;have hTM:=(TM.out.ty14 hcp2.ty (by decide) (by decide) (by decide) (by decide))
   have HMI:Hid (∀X',Below X.heap.size X X'→Calls Tryz.prog 58 #[.pointer (some ⟨bt,0,none⟩),.slice ax k cx,.slice ay k cy] X' (zWA X' (cpE (en n zs) m n k t u) KW)):=fun X' hb=>by
    have:=tminor_any (A:=en n zs) (rows:=rows) (cols:=cols) (hTM.now hb) TB.out HRK.out HFIT.out hkk ((hiv2.now hb).in9 (by rw [HRM.out.1];omega)) ((hcols.now hb).in9 (by rw [cm1];omega)) HRM.out.1 cm1 (HRM.out.2.1.imp fun h=>Nat.ne_of_lt h) (cm2.imp fun h=>Nat.ne_of_lt h) HRM.out.2.2 cm3 (by omega);unfold cpE;rw [ERW.out,hcw];exact this
   have HPS:=hid hps;have HZS:=hid hzs;have HC2:=hid hcp2;have HOB:=hid hob;have HCR:=hid crow2;have HIV:=hid hiv2;have HKF:=hid hkf;have HKP:=hid hkp;have z0:=hcp2.all.at (i:=2) rfl;have z1:=(PT.out.ty13 hcp2.ty (by decide)).at (i:=0) rfl;have z2:=crow2.at (i:=0) rfl;have HPT:=hid (PT.out.ty13 hcp2.ty (by decide));have HUC:Hid (u<C):=by unfold Hid;rw [←ECC.out];exact hu
   clear hps hzs hcp2 hob crow2 hiv2 hkf hkp hcols cm1 cm2 cm3 hcw hTM hu;refine wpIn_block ?_;have KB:Hid (∀w',Below X.heap.size X w'→w'.cell? ⟨bA,2,none⟩=some (.slice av lv cv)∧w'.cell? ⟨bT,0,none⟩=some (.pointer (some ⟨bt,0,none⟩))∧w'.cell? ⟨brow,0,none⟩=some (.slice ax k cx)):=fun w' h=>⟨cnow h z0,cnow h z1,cnow h z2⟩
   refine zAD (by kernel_rfl) (zaE (by kernel_rfl)) (by first | (rintro ⟨a,w,h⟩;cases h.1) | (rintro ⟨a,w,h⟩;exact h)) (wpAny_of_tail (S:=fun w'=>w'.cell? ⟨bA,2,none⟩=some (.slice av lv cv)∧w'.cell? ⟨bT,0,none⟩=some (.pointer (some ⟨bt,0,none⟩))∧w'.cell? ⟨brow,0,none⟩=some (.slice ax k cx)) (n:=9) _ _ _ _ ?_);obtain ⟨D61,hD⟩:∃D61,X.drew=D61:=⟨_,rfl⟩
   have GB:Hid (Below X.heap.size X D61):=by unfold Hid;rw [←hD];exact (Below.refl _ _).drew
   rw [hD];clear hD;have KC:=hid (KB.out _ GB.out);refine zAA (i:=0) (oi:=⟨some 32,.fieldAddr 24 (.tmp 5) 2,0, "minors.go:129",#[],none⟩) (v:=(.pointer (some ⟨bA,2,none⟩))) rfl (by kernel_rfl) (fun _ _ _ h=>h) (Or.inl ⟨by rfl,?_⟩) (KC.out) ?_
   ·intro w hSw;(try dsimp only at hSw);go_simp
   simp only [Act.put,sIb,sC0,sC1];refine zAA (i:=1) (oi:=⟨some 33,.load 22 (.tmp 32),22, "minors.go:129",#[⟨0,.data⟩],none⟩) (v:=(.slice av lv cv)) rfl (by kernel_rfl) (fun _ _ _ h=>h) (Or.inl ⟨by rfl,?_⟩) (KC.out) ?_
   ·intro w hSw;(try dsimp only at hSw);go_simp
   simp only [Act.put,sIb,sC0,sC1];refine zAA (i:=2) (oi:=⟨some 34,.load 84 (.tmp 6),84, "minors.go:129",#[],none⟩) (v:=(.pointer (some ⟨bt,0,none⟩))) rfl (by kernel_rfl) (fun _ _ _ h=>h) (Or.inl ⟨by rfl,?_⟩) (KC.out) ?_
   ·intro w hSw;(try dsimp only at hSw);go_simp
   simp only [Act.put,sIb,sC0,sC1];refine zAA (i:=3) (oi:=⟨some 35,.load 47 (.tmp 7),47, "minors.go:129",#[],none⟩) (v:=(.slice ax k cx)) rfl (by kernel_rfl) (fun _ _ _ h=>h) (Or.inl ⟨by rfl,?_⟩) (KC.out) ?_
   ·intro w hSw;(try dsimp only at hSw);go_simp
   simp only [Act.put,sIb,sC0,sC1];refine zAA (i:=4) (oi:=⟨some 36,.move (.tmp 8),47, "minors.go:129",#[],none⟩) (v:=(.slice ay k cy)) rfl (by kernel_rfl) (fun _ _ _ h=>h) (Or.inl ⟨by rfl,?_⟩) (KC.out) ?_
   ·intro w hSw;(try dsimp only at hSw);go_simp
   simp only [Act.put,sIb,sC0,sC1];refine zCA (i:=5) (o:=⟨some 37,.call { callee:=.value (.func 58),args:=#[.tmp 34,.tmp 35,.tmp 36],argTypes:=#[84,47,47] },39, "minors.go:129",#[⟨2,.data⟩,⟨3,.data⟩,⟨4,.data⟩],none⟩) (by kernel_rfl) rfl (fun K hK=>?_);go_simp;go_at_call 58;refine (HMI.out _ GB.out).mono ?_;rintro e w62 ⟨r1,rfl,m1,b⟩;have lz62:=(show Below _ _ _ from b).size;replace GB:=hid (zBA GB.out b);have MM:=hid (m1.mono (Nat.zero_le _));obtain ⟨nm,xm,am,cm,rfl⟩:=m1.parts;obtain ⟨lm,hlm⟩:∃lm,xm.length=lm:=⟨_,rfl⟩
   rw [hlm] at MM ⊢;clear m1 hlm;replace KC:=hid (KB.out _ GB.out);clear b;refine hK.out _ _ (fun _=>KC.out) ?_;clear hK;refine zCA (i:=6) (o:=⟨some 38,.buildSlice 22 1 #[(0,.tmp 37)],22, "minors.go:129",#[⟨5,.data⟩],none⟩) (by kernel_rfl) rfl (fun K hK=>?_);go_simp;obtain ⟨V63,hW⟩:∃V63,w62.alloc (duo (.bool nm) (.slice am lm cm))=V63:=⟨_,rfl⟩
   obtain ⟨b,sz63⟩:=alo1 w62 (duo (.bool nm) (.slice am lm cm));rw [hW] at b sz63;replace GB:=hid (zBA GB.out b);replace KC:=hid (KB.out _ GB.out);have DX:Hid (Duo V63 w62.heap.size (.bool nm) (.slice am lm cm)):=by unfold Hid;rw [←hW];exact Duo.new w62 _ _
   replace MM:=hid (MM.out.now b);rw [hW];clear hW b sz63;refine hK.out _ _ (fun _=>KC.out) ?_;clear hK
   try simp only [Act.put]
   refine zCA (i:=7) (o:=⟨some 39,.call { callee:=.builtin .append,args:=#[.tmp 33,.tmp 38],argTypes:=#[22,22] },22, "minors.go:129",#[⟨1,.data⟩,⟨6,.data⟩,⟨5,.chain⟩],none⟩) (by kernel_rfl) rfl (fun K hK=>?_);have HPV:Hid (OwnP B1 V63 (.slice av lv cv) ps):=HPS.out.kc14 (zfB GB.out);refine zAB V63 rfl (.tmp 33) (.tmp 38) rfl B1 (.slice av lv cv) ps rfl HPV.out w62.heap.size (.bool nm) (.slice am lm cm) rfl DX.out.c0 DX.out.c1 ⟨_,_,_,_,rfl⟩ hpl (by have:=GB.out.size;omega) ?_;intro g9 l9 cap9 w64 hl9 hI hg hb;clear hl9;have TG:Hid (Ty 39 V63 w64):=Ty.grown HPV.out hg.out;have C9:=hid ((HC2.out.all.step GB.out).ty13 TG.out (by decide));have R9:=hid ((HCR.out.step GB.out).ty13 TG.out (by decide));have I9:Hid (Ivs 0 w64 (.slice ax k cx) rows):=(HIV.out.now GB.out).keep fun b L _ e=>TG.out.2 b _ _ _ e (by decide)
   replace KC:=hid (⟨C9.out.at (i:=2) rfl,((HPT.out.step GB.out).ty13 TG.out (by decide)).at (i:=0) rfl,R9.out.at (i:=0) rfl⟩:_∧_∧_);have NC:Hid (∀u_,CpJ w w3 ba br bA (matc m n (.slice aa la ca)) (t+1) C (cpL (en n zs) m n k C t (u+1)) KW B1 (w64.setCell ⟨bA,2,none⟩ u_) u_∨u_≠.slice (some ⟨g9,0,none⟩) l9 cap9):=fun u_=>by
    by_cases q:u_=.slice (some ⟨g9,0,none⟩) l9 cap9
    ·subst q
     have:=HC2.out.app GB.out HPS.out HZS.out MM.out hI.out hg.out ⟨by omega,by omega⟩ (by have:=EBA.out;omega) (by have:=EBA.out;omega) (by omega);rw [cpL_put] at this;exact .inl this
    ·exact .inr q
   have NK:Hid (KeepsFrom wi.heap.size X (w64.setCell ⟨bA,2,none⟩ (.slice (some ⟨g9,0,none⟩) l9 cap9))∧KpL (fun b=>b=bA∨v.ownBlock=some b) B2 X (w64.setCell ⟨bA,2,none⟩ (.slice (some ⟨g9,0,none⟩) l9 cap9))):=zVF HC2.out GB.out HPS.out hg.out (.inl rfl) (fun b hb2=>HOB.out b hb2);have NK3:Hid (KeepsFrom w3.heap.size X (w64.setCell ⟨bA,2,none⟩ (.slice (some ⟨g9,0,none⟩) l9 cap9))∧KpL (· = bA) B1 X (w64.setCell ⟨bA,2,none⟩ (.slice (some ⟨g9,0,none⟩) l9 cap9))):=zVF HC2.out GB.out HPS.out hg.out rfl (fun b hb2=>.inr (HPS.out.blk14 hb2).1);have NO:Hid (∀b,(Value.slice (some ⟨g9,0,none⟩) l9 cap9).ownBlock=some b→(b=bA∨v.ownBlock=some b)∨B2≤b):=fun b hb2=>by
    simp only [Value.ownBlock,Option.some.injEq] at hb2;subst hb2;rcases hb.out with q | q
    ·exact HOB.out _ q
    ·exact .inr (by have:=GB.out.size;omega)
   clear hI hg hb DX MM HPV;refine hK.out _ _ (fun _=>KC.out) ?_;clear hK;refine zAA (i:=8) (oi:=⟨some 40,.fieldAddr 24 (.tmp 5) 2,0, "minors.go:129",#[⟨0,.phase⟩,⟨1,.phase⟩,⟨2,.phase⟩,⟨3,.phase⟩,⟨4,.phase⟩,⟨5,.phase⟩,⟨6,.phase⟩,⟨7,.phase⟩],none⟩) (v:=(.pointer (some ⟨bA,2,none⟩))) rfl (by kernel_rfl) (fun _ _ _ h=>h) (Or.inl ⟨by rfl,?_⟩) (KC.out) ?_
   ·intro w hSw;(try dsimp only at hSw);go_simp
   simp only [Act.put,sIb,sC0,sC1];refine zCA (i:=9) (o:=⟨none,.store 22 (.tmp 40) (.tmp 39),0, "minors.go:129",#[⟨8,.data⟩,⟨7,.data⟩,⟨7,.chain⟩,⟨0,.phase⟩,⟨1,.phase⟩,⟨2,.phase⟩,⟨3,.phase⟩,⟨4,.phase⟩,⟨5,.phase⟩,⟨6,.phase⟩,⟨7,.phase⟩],none⟩) (by kernel_rfl) rfl (fun K hK=>?_);have h0:=C9.out.at (i:=2) rfl;have h1:=C9.out.fz 2;go_simp;clear h0 h1;obtain ⟨V65,hW⟩:∃V65,(w64.setCell ⟨bA,2,none⟩ (.slice (some ⟨g9,0,none⟩) l9 cap9))=V65:=⟨_,rfl⟩
   have FIN:Hid (KeepsFrom wi.heap.size X V65∧CJi w w3 W wi ba br bA brow (matc m n (.slice aa la ca)) (en n zs) m n k C KW B1 t v (.slice ax k cx) rows (B2,u+1) V65∧KpL (fun b=>b=bA∨v.ownBlock=some b) B2 X V65):=by
    unfold Hid;rw [←hW];have tz:=Ty.set (i:=2) (u:=.slice (some ⟨g9,0,none⟩) l9 cap9) C9.out;refine ⟨NK.out.1,⟨hB2,HUC.out,R9.out.ty13 tz (by decide),I9.out.keep fun b L _ e=>tz.2 b _ _ _ e (by decide),?_,HKP.out.trans NK3.out.2,_,(NC.out _).resolve_right (fun h=>h rfl),NO.out⟩,NK.out.2⟩;exact ⟨Nat.le_trans HKF.out.1 NK3.out.1.1,fun j o_ hj e ho=>NK3.out.1.2 j o_ hj (HKF.out.2 j o_ hj e ho) ho⟩
   rw [hW];clear hW;refine hK.out _ _ (fun h=>absurd h (by decide)) ?_;clear hK
   try simp only [Act.put]
   refine zFA (by kernel_rfl) ?_ _;clear GB KB KC C9 R9 I9 NC NK NK3 NO TG;go_wp2;exact ⟨trivial,FIN.out⟩
 case done =>
  rintro D ⟨B,t⟩ W hDs hl ⟨hB,htR,v,hcp⟩ hD;dsimp only at hl hB htR hcp;subst hl;have o:=O1.out;obtain ⟨ps,hps,hzs⟩:=hcp.own;obtain ⟨av,lv,cv,hv2⟩:∃av lv cv,v=.slice av lv cv:=by
   obtain ⟨_,⟨r2,_⟩ | ⟨g2,cap,cur,r2,r3,r4,r5⟩⟩:=hps
   ·exact ⟨_,_,_,r2⟩
   ·exact ⟨_,_,_,r2⟩
  subst hv2;have x0:=hcp.all.at (i:=0) rfl;have x1:=hcp.all.at (i:=1) rfl;have x2:=hcp.all.at (i:=2) rfl;have r0:=hcp.r.at (i:=0) rfl;have r1:=hcp.r.at (i:=1) rfl;have r2:=hcp.r.at (i:=2) rfl;have f0:=hcp.r.fz 0;have f1:=hcp.r.fz 1;have f2:=hcp.r.fz 2;obtain ⟨U,hU⟩:∃U,Go.Proofs.YtjnokjgbeploaaaGreat.put3 W br (.int .i64 (t:Int)) (.int .i64 (C:Int)) (.slice av lv cv)=U:=⟨_,rfl⟩
  have tyU:Ty 24 W U:=by rw [←hU];exact hcp.r.ty3 _ _ _
  have hK1:U.heap[D]?=some (.deferred (some [])):=by
   rw [←hU];exact (((KeepsOthers.setCell W ⟨br,0,none⟩ _).trans (KeepsOthers.setCell _ ⟨br,1,none⟩ _)).trans (KeepsOthers.setCell _ ⟨br,2,none⟩ _)).same D _ hD rfl
  have d2:Cel U br 24 [.int .i64 (t:Int),.int .i64 (C:Int),.slice av lv cv]:=by rw [←hU];exact hcp.r.put3 _ _ _
  have b2:Below w.heap.size w U:=by rw [←hU];exact zSA hcp.bw (by have:=EBA.out;omega) _ _ _
  have kg:=ztA (grownBy_putObj' U D (.deferred none)) (fun r e=>by cases e;exact ⟨_,hK1,rfl⟩);have PP:=hid (kg.cel d2);have BB:=b2.trans (belowK_b (w:=w) (Nat.le_refl _) _ D _ (.deferred none) (by have:=EBA.out;omega) hK1 rfl rfl);have HZ:Hid (Cpd w (en n zs) m n k KW (.returned (.agg #[.int .i64 (t:Int),.int .i64 (C:Int),.slice av lv cv])) (U.putObj D (.deferred none))):=by
   refine ⟨_,ps,by rw [ERR.out,EC.out],zGB (hps.ty14 tyU (by decide) |>.kc14 kg) (by have:=EBA.out;omega),?_,BB⟩;rw [ERR.out,EC.out];exact (hzs.ty tyU (by decide)).kc14 kg
  have HK:=hid hK1;have EU:Hid (((W.setCell ⟨br,0,none⟩ (.int .i64 (t:Int))).setCell ⟨br,1,none⟩ (.int .i64 (C:Int))).setCell ⟨br,2,none⟩ (.slice av lv cv)=U):=hU;clear hcp hps hzs hU hK1 d2 b2 kg BB hD tyU;gi_wp2;rw [EU.out];refine ⟨by simp,.inl ⟨_,_,rfl,run_takeDeferred HK.out,?_⟩⟩;exact ⟨_,zhF Tryz.results32 PP.out _ (by rfl),by rw [EKW.out];exact HZ.out⟩
end Go.Proofs.YtjnokjgbeploaaaGreat
