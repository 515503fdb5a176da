/-
 QSo13ToInts9: So13, Ints9, joined.
-/
import Derived.Test.YtjnokjgbeploaaaGreatQIx13ToCl13
import Derived.Test.YtjnokjgbeploaaaGreatQTurn9

set_option maxRecDepth 100000
set_option maxHeartbeats 6400000
set_option linter.unusedVariables false
set_option linter.unusedSimpArgs false
namespace Go.Proofs.YtjnokjgbeploaaaGreat
open Go.RowKit Go.Shelf
attribute [local go_sem] Oper.semAt_some
def en (c:Nat) (zs:List Int):Nat→Nat→Int:=fun i j=>zs.getD (i*c+j) 0
theorem zXI {r c i:Nat} {zs:List Int} (hl:zs.length=r*c) (hi:i<r):zLB (rowsL r c zs) i=(List.range c).map (en c zs i):=by
 rw [zcD hi];have hm:i*c+c≤r*c:=by
  have:=Nat.mul_le_mul_right c (show i+1≤r from hi);rw [Nat.succ_mul] at this;exact this
 apply List.ext_getElem
 ·simp;omega
 ·intro j h1 h2
  have hj:j<c:=by simpa using h2
  simp [en,show i*c+j<zs.length by omega]
theorem pw13:∀k,pw k=((2 ^ (64*k):Nat):Int)
 | 0=>by simp [pw]
 | k+1=>by
  rw [pw,pw13 k,show 64*(k+1)=64+64*k by omega,Nat.pow_add,Int.natCast_mul]
  rfl
theorem zYI {c k:Nat} {zs:List Int} (h:∀z∈zs,(z.natAbs:Int)<pw k) (i j:Nat):(en c zs i j).natAbs≤2 ^ (64*k):=by
 unfold en
 by_cases q:i*c+j<zs.length
 ·have hm:zs.getD (i*c+j) 0∈zs:=by simp [q]
  have:=h _ hm;have e:=pw13 k;rw [e] at this;omega
 ·simp [q]
theorem zXH {c k:Nat} {zs:List Int} {rs cs:List Nat} (h:∀z∈zs,(z.natAbs:Int)<pw k) (hr:rs.length≤63):Fits (en c zs) rs cs (64*k+7):=fun t r j ht=>by
 have h1:=mi_abs (A:=en c zs) (X:=2 ^ (64*k)) (N:=64) (gd rs) (gd cs) (k:=t) (r:=r) (j:=j) (by omega) (zYI h);have h2:(64*2 ^ (64*k)) ^ (t+1)≤(64*2 ^ (64*k)) ^ 64:=Nat.pow_le_pow_right (by have:=Nat.two_pow_pos (64*k);omega) (by omega);have h3:(64*2 ^ (64*k)) ^ 64=2 ^ (384+64*k*64):=by
  rw [show (64:Nat)=2 ^ 6 from rfl,←Nat.pow_add,←Nat.pow_mul]
  congr 1
  omega
 have h4:2 ^ (384+64*k*64)<2 ^ (64*(64*k+7)):=Nat.pow_lt_pow_right (by omega) (by omega);have e:=pw13 (64*k+7);rw [e];omega
theorem Zis.lt {w:World} {ps:List (Value×Value)} {zs:List Int} {k:Nat} (h:Zis w ps zs k):∀z∈zs,(z.natAbs:Int)<pw k:=fun z hz=>by
 obtain ⟨j,hj,e⟩:=List.getElem_of_mem hz;exact (h.2 j _ z (List.getElem?_eq_getElem (by rw [h.1];exact hj)) (by rw [List.getElem?_eq_getElem hj,e])).lt
def SoJ (w:World) (Bs Bp c r kw:Nat) (zs:List Int) (s:Nat×List Nat) (W:World):Prop :=
 ∃rs cs odd ks,Srs (en c zs) s.1 W Bs c rs cs odd ks kw∧Stz (en c zs) c s.2.length rs cs odd∧(∀x∈ks,x∈s.2)∧(∀x∈s.2,x<W.heap.size)∧Cel W Bp 76 [.pointer (some ⟨Bs,0,none⟩)]∧s.2.length≤r∧Below w.heap.size w W∧Bp<s.1∧Bs<s.1
theorem SoJ.own {w:World} {Bs Bp c r kw B:Nat} {zs:List Int} (hB:w.heap.size≤B):OwnFrom B (SoJ w Bs Bp c r kw zs):=fun s W W' row hs hg hr=>by
 obtain ⟨rs,cs,odd,ks,h1,h2,h3,h4,h5,h6,h7,h8⟩:=hs;have hk:=ztA hg (fun r e=>(hr r e).2);exact ⟨rs,cs,odd,ks,h1.kc hk,h2,h3,fun x hx=>Nat.lt_of_lt_of_le (h4 x hx) hk.1,hk.cel h5,h6,h7.grown hg h7.size (fun k e=>Nat.le_trans hB (hr k e).1),h8⟩
def zmH (w:World) (r c:Nat) (zs:List Int) (kw:Nat) (e:Ending) (w':World):Prop :=
 ∃Bs B rs cs odd ks,e=.returned (.pointer (some ⟨Bs,0,none⟩))∧Srs (en c zs) B w' Bs c rs cs odd ks kw∧Stz (en c zs) c r rs cs odd∧w.heap.size≤Bs∧w.heap.size≤B∧Below w.heap.size w w'
theorem stairsOf_any {w:World} {v:Value} {r c:Nat} {zs:List Int} {k:Nat} (h:Mx w v r c zs k) (hk:k≤4000000000):Calls Tryz.prog 98 #[v] w (zmH w r c zs (64*k+7)):=by
 have M0:=hid h;refine (callsIn_wide (n:=5)).1 ?_;have HZA:Hid (∀z∈zs,(z.natAbs:Int)<pw k):=by obtain ⟨_,_,_,_,h,_⟩:=h;exact h.lt
 obtain ⟨aa,ca,rfl,hr,hc⟩:=h.form;have HZL:Hid (zs.length=r*c):=by obtain ⟨_,_,_,_,_,h,_⟩:=h;exact h
 obtain ⟨la,hla⟩:∃la,r*c=la:=⟨_,rfl⟩
 rw [hla] at M0 ⊢;obtain ⟨W0,hW⟩:∃W0,((w.alloc (matO r c (.slice aa la ca))).alloc (.cells #[.slice none 0 0,.slice none 0 0,.slice none 0 0,.bool false] 50)).alloc (.cells #[.pointer (some ⟨w.heap.size+1,0,none⟩)] 76)=W0:=⟨_,rfl⟩
 obtain ⟨b0,sz0⟩:=znB w (matO r c (.slice aa la ca)) (.cells #[.slice none 0 0,.slice none 0 0,.slice none 0 0,.bool false] 50) (.cells #[.pointer (some ⟨w.heap.size+1,0,none⟩)] 76);rw [hW] at b0 sz0;have pa:Cel W0 w.heap.size 24 (matc r c (.slice aa la ca)):=by
  rw [←hW];exact ((Cel.new w 24 (matc r c (.slice aa la ca))).step ((Below.refl _ _).alloc (Nat.le_refl _) _)).step ((Below.refl _ _).alloc (Nat.le_refl _) _)
 have PS:Hid (Cel W0 (w.heap.size+1) 50 [.slice none 0 0,.slice none 0 0,.slice none 0 0,.bool false]):=by
  unfold Hid;rw [←hW];have:=(Cel.new (w.alloc (matO r c (.slice aa la ca))) 50 [.slice none 0 0,.slice none 0 0,.slice none 0 0,.bool false]).step ((Below.refl _ _).alloc (Nat.le_refl _) (.cells #[.pointer (some ⟨w.heap.size+1,0,none⟩)] 76))
  simpa using this
 have PP:Hid (Cel W0 (w.heap.size+1+1) 76 [.pointer (some ⟨w.heap.size+1,0,none⟩)]):=by
  unfold Hid;rw [←hW];have:=Cel.new ((w.alloc (matO r c (.slice aa la ca))).alloc (.cells #[.slice none 0 0,.slice none 0 0,.slice none 0 0,.bool false] 50)) 76 [.pointer (some ⟨w.heap.size+1,0,none⟩)]
  simpa using this
 have HLI:=hid (zDF (M0.out.now b0));have x0:=pa.at (i:=0) rfl;have x1:=pa.at (i:=1) rfl;have x2:=pa.at (i:=2) rfl;rw [←hW] at x0 x1 x2;have G0:=hid b0;have EW:=hid hW;have SZ:=hid sz0;have HKK:=hid hk;clear h hla b0 sz0 hW pa M0 hk;refine callsIn_of_wp_marks Tryz.func98 rfl trivial ?_ rfl;simp only [Tryz.ntmps98,List.size_toArray,List.length_cons,List.length_nil,Nat.reduceAdd,Nat.reduceSub,Array.replicate_succ,Array.replicate_zero,List.push_toArray,List.append_toArray,List.nil_append,List.cons_append];gi_wp2_with fail;rw [EW.out];clear EW;refine ⟨trivial,(callsIn_wide.2 HLI.out).mono ?_⟩;rintro e w1 ⟨Bm,ga,ps,rfl,q1,q2,q3,q4,q5,b⟩;have HQ3:=hid q3;have HQ5:=hid q5;have HB1:=hid b;have HQ1:=hid q1;have G1:=hid (zBA G0.out b);replace PS:=hid (PS.out.step b);replace PP:=hid (PP.out.step b);have hs1:=b.size;have hsz:=SZ.out;clear q1 q3 q5 b x0 x1 x2 HLI G0;gi_wp2_with fail;have hml:(rowsL r c zs).length=r:=zpB;refine zOI (σ:=Nat×List Nat) (α:=Nat×Nat) (by decide) rfl (enters_of Tryz.func47 (by kernel_rfl) rfl) (encL c) (fun _=>rfl)
  (SoJ w (w.heap.size+1) (w.heap.size+1+1) c r (64*k+7) zs) (SoJ.own (by omega)) (AtL k (rowsL r c zs)) (fun s x=>AtL.own s x) (fun s x=>(s.1,s.2 ++ [x.2]))
  (fun s=>KpL (· = w.heap.size+1) s.1) (fun h h'=>h.trans h') (fun s W l o o' _ h1 h2=>KpL.put h1 h2) (fun s=>s.2=[]∧w.heap.size+1+1<s.1) (fun s=>s.2.length=r) ?ini ?it (fun x=>{ tmps:=#[matv r c (.slice aa la ca),.pointer (some ⟨w.heap.size,0,none⟩),.pointer none,.pointer (some ⟨w.heap.size+1+1,0,none⟩),.int .i64 (x.1:Int),.slice (some ⟨x.2,0,none⟩) c c,.agg #[.slice none 0 0,.slice none 0 0,.slice none 0 0,.bool false],.pointer (some ⟨w.heap.size+1,0,none⟩),.agg #[.int .i64 (r:Int),.int .i64 (c:Int),.slice aa la ca],.func (.func 47) #[] #[.pointer (some ⟨Bm,0,none⟩)],.int .i64 (x.1:Int),.slice (some ⟨x.2,0,none⟩) c c,undef,undef,undef,undef,undef],defers:=[] }) ?assign ?body ?done
 case ini =>
  rintro ⟨B,gs⟩ ⟨rfl,hB⟩;exact ⟨[],[],false,[],⟨_,_,_,PS.out,Ivs.nil _ _,Ivs.nil _ _,ShtM.nil _ _ _ _,fun b h=>by cases h⟩,Stz.start _,fun x h=>by simp at h,fun x h=>by simp at h,PP.out,Nat.zero_le _,G1.out,hB,by omega⟩
 case it =>
  intro l J' W hW hJ hJb hJ0 hY;have c1:Cel W Bm 24 (matc r c (.slice (some ⟨ga,0,none⟩) (r*c) (r*c))):=HQ1.out.step hW;have ar:=HQ3.out.step hW;have zr:=HQ5.out.now hW;have hrc:r*c≤64*64:=Nat.mul_le_mul hr hc;have pr:Prs (w.heap.size+1+1) W (.slice (some ⟨ga,0,none⟩) (r*c) (r*c)) ps:=by
   have:=ar.prs (B:=w.heap.size+1+1) (by omega) (by omega) (cap:=r*c) (by omega);rw [q4] at this;exact this
  refine (zEF (by decide) J' c1 pr q4 zr.zis hr hc hJb (fun B hB=>hJ0 _ ⟨rfl,by have:=hW.size;omega⟩) (fun s A h=>by
   obtain ⟨_,_,_,_,_,_,_,h4,_⟩:=hJ s A h;exact h4) (by have:=hW.size;omega) (fun b off x hs e=>?_) (fun b hs=>Nat.le_of_eq hs) (fun s x X h1 h2 _=>hY s x X h1 h2)).mono (fun e Y h=>h)
  have hs':b=w.heap.size+1:=hs;subst hs';have d:=PS.out.step hW
  match off,e with
  | 0,e=>rw [d.at (i:=0) rfl] at e;simp at e
  | 1,e=>rw [d.at (i:=1) rfl] at e;simp at e
  | 2,e=>rw [d.at (i:=2) rfl] at e;simp at e
  | 3,e=>rw [d.at (i:=3) rfl] at e;simp at e
  | off+4,e=>simp [World.cell?,show W.heap[w.heap.size+1]?=_ from d] at e
 case assign =>
  intro l x W K hK;have HKK:=hid hK;clear hK;gi_wp2;exact HKK.out
 case body =>
  rintro l ⟨B,gs⟩ ⟨t,gx⟩ W ⟨rs,cs,odd,ks,h1,h2,h3,h4,h5,h6,h7,h8,h9⟩ ⟨k1,k2,k3,k4,k5,ps',k6,k7⟩;dsimp only at k1 k2 k3 k4 k5 k6 k7 h1 h2 h3 h4 h6 h8 h9 ⊢;subst k1;have hgr:gs.length<r:=by omega
  rw [zXI HZL.out hgr] at k7;have hrl:rs.length≤gs.length:=by
   have:rs.length≤(List.range gs.length).length:=List.Nodup.length_le_of_subset (h2.up.imp fun hab=>Nat.ne_of_lt hab) fun r hr=>by simpa using h2.lt r hr
   simpa using this
  have hgk:∀x∈ks,x≠gx:=fun x hx=>k5 x (h3 x hx)
  have HC:=hid (zQF h1 h2 k6 (k7.more (show k≤64*k+7 by omega)) hgk k3 (zXH HZA.out (by omega)) (by omega) (by have:=HKK.out;omega) hc (show gs.length<64 by omega));have y0:=h5.at (i:=0) rfl;have FIN:Hid (∀e Y,zlE (en c zs) B W (w.heap.size+1) c gs.length gx ks (64*k+7) e Y→KeepsFrom w1.heap.size W Y∧SoJ w (w.heap.size+1) (w.heap.size+1+1) c r (64*k+7) zs (B,gs ++ [gx]) Y∧KpL (· = w.heap.size+1) B W Y):=by
   rintro e Y ⟨-,rs',cs',odd',ks',c1,c2,c3,c4⟩;have hBW:B≤W.heap.size:=k4;refine ⟨⟨c4.1.size,fun j o _ e q=>c4.2.1 j o e q⟩,⟨rs',cs',odd',ks',c1,by simpa using c2,fun x hx=>?_,fun x hx=>?_,(c4.1.block _ h5.blk (fun q=>by rcases q with q | q <;> omega)).trans h5,by simp;omega,h7.trans ?_,h8,h9⟩,⟨c4.1.size,fun b o hb hne e _=>(c4.1.block b (Array.getElem?_eq_some_iff.1 e).1 (fun q=>by rcases q with q | q <;> omega)).trans e⟩⟩
   ·rcases c3 x hx with q | q
    ·simp [h3 x q]
    ·simp [q]
   ·rcases List.mem_append.1 hx with q | q
    ·exact Nat.lt_of_lt_of_le (h4 x q) c4.1.size
    ·have:x=gx:=by simpa using q
     subst this;exact Nat.lt_of_lt_of_le k6.1.blk c4.1.size
   ·exact ⟨c4.1.os,c4.1.tape,c4.1.output,c4.1.size,fun b hb=>c4.1.block b (Nat.lt_of_lt_of_le hb h7.size) (fun q=>by rcases q with q | q <;> omega)⟩
  refine wpIn_block (region_roundL (zaE (by kernel_rfl)) (by rintro ⟨a,w,h⟩;cases h.1) ?_);clear h1 h2 h3 h4 h5 h6 h7 h8 h9 k2 k3 k4 k5 k6 k7 hgk hrl;dsimp only;go_wp2_with fail;refine HC.out.mono ?_;intro e Y hcl;have hF:=hid (FIN.out e Y hcl);obtain ⟨rfl,-⟩:=hcl;clear HC FIN y0;go_wp2;exact ⟨trivial,hF.out⟩
 case done =>
  rintro D ⟨B,gs⟩ W hDs hl ⟨rs,cs,odd,ks,h1,h2,h3,h4,h5,h6,h7,h8,h9⟩ hD;dsimp only at hl h1 h2 h3 h4 h6 h8 h9;have x0:=h5.at (i:=0) rfl;have kg:=ztA (grownBy_putObj' W D (.deferred none)) (fun r e=>by cases e;exact ⟨_,hD,rfl⟩);have BB:=h7.trans (belowK_b (w:=w) (Nat.le_refl _) _ D _ (.deferred none) (by have:=G1.out.size;omega) hD rfl rfl);have HZ:Hid (zmH w r c zs (64*k+7) (.returned (.pointer (some ⟨w.heap.size+1,0,none⟩))) (W.putObj D (.deferred none))):=by
   rw [hl] at h2;exact ⟨_,B,rs,cs,odd,ks,rfl,h1.kc kg,h2,by omega,by omega,BB⟩
  have HK:=hid hD;clear h1 h2 h3 h4 h5 h6 h7 kg BB hD;gi_wp2;refine ⟨by simp,.inl ⟨_,_,rfl,run_takeDeferred HK.out,?_⟩⟩;exact ⟨_,by simp [results,Tryz.results98,go_sem],HZ.out⟩
end Go.Proofs.YtjnokjgbeploaaaGreat
namespace Go.Proofs.YtjnokjgbeploaaaGreat
open Go.RowKit
def In9 (w:World) (v:Value) (is:List Int):Prop :=
 ∃a c,v=.slice a is.length c∧is.length≤c∧is.length≤1048576∧(is=[]∨∃b off,a=some ⟨b,off,none⟩∧b<w.heap.size∧∀j (h:j<is.length),w.cell? ⟨b,off+j,none⟩=some (.int .i64 is[j]))
theorem In9.now {w w':World} {v:Value} {is:List Int} (h:In9 w v is) (hb:Below w.heap.size w w'):In9 w' v is:=by
 obtain ⟨a,c,h1,h2,h3,h4⟩:=h;refine ⟨a,c,h1,h2,h3,?_⟩;rcases h4 with h4 | ⟨b,off,h5,h6,h7⟩
 ·exact .inl h4
 ·exact .inr ⟨b,off,h5,Nat.lt_of_lt_of_le h6 hb.size,fun j hj=>(hb.cell (p:=⟨b,off+j,none⟩) h6).trans (h7 j hj)⟩
theorem In9.form {w:World} {v:Value} {is:List Int} (h:In9 w v is):∃a c,v=.slice a is.length c∧is.length≤c∧is.length≤1048576∧(is≠[]→∃b off,a=some ⟨b,off,none⟩):=by
 obtain ⟨a,c,h1,h2,h3,h4⟩:=h;refine ⟨a,c,h1,h2,h3,fun hn=>?_⟩;rcases h4 with h4 | ⟨b,off,h5,_⟩
 ·exact absurd h4 hn
 ·exact ⟨b,off,h5⟩
theorem In9.at {w:World} {b off l c:Nat} {is:List Int} (h:In9 w (.slice (some ⟨b,off,none⟩) l c) is) {i:Nat} (hi:i<is.length):w.cell? ⟨b,off+i,none⟩=some (.int .i64 is[i]):=by
 obtain ⟨a,c,h1,h2,h3,h4⟩:=h;rcases h4 with h4 | ⟨b',off',h5,h6,h7⟩
 ·subst h4;simp at hi
 ·subst h5
  injection h1 with e1 e2 e3
  injection e1 with e1
  injection e1 with e1 e4
  subst e1 e4;exact h7 i hi
abbrev zWH (pb:Nat):Value:=.func (.func 110) #[] #[.pointer (some ⟨pb,0,none⟩)]
theorem below1_no {w:World} {x n:Int} {pb:Nat} (hp:w.cell? ⟨pb,0,none⟩=some (.int .i64 n)) (h0:0≤x) (h1:x<n):Calls Tryz.prog 110 #[.int .i64 x,.pointer (some ⟨pb,0,none⟩)] w fun e w'=>e=.returned (.bool false)∧w'=w:=by
 have q0:¬x<0:=by omega
 have q1:¬n≤x:=by omega
 go_enter Tryz.func110,Tryz.ntmps110;go_wp2;go_ret;exact ⟨rfl,rfl⟩
def Idx9 (w:World) (n g:Nat) (s:Value) (wx:World):Prop:=∃i:Nat,s=.int .i64 (i:Int)∧i≤n∧g=n-i∧Below w.heap.size w wx
theorem index9 {w:World} {v:Value} {is:List Int} {b:Int} {pb:Nat} (hv:In9 w v is) (hp:w.cell? ⟨pb,0,none⟩=some (.int .i64 b)) (ha:∀x∈is,0≤x∧x<b) :
  Calls Tryz.prog 66 #[v,zWH pb] w fun e w'=>e=.returned (.int .i64 (-1))∧Below w.heap.size w w':=by
 have V0:=hid hv;have P0:=hid hp;have HA:Hid (∀i (h:i<is.length),0≤is[i]∧is[i]<b):=fun i h=>ha _ (List.getElem_mem h)
 obtain ⟨a0,c0,rfl,hc0,hn0,hf0⟩:=hv.form;obtain ⟨n,hn⟩:∃n,is.length=n:=⟨_,rfl⟩
 rw [hn] at V0 hc0 hn0 ⊢;have HN:=hid hn;have F0:=hid hf0;clear hv hf0 hn hp ha;have H0:Hid (Idx9 w n n (.int .i64 0) w):=⟨0,rfl,Nat.zero_le _,rfl,Below.refl _ _⟩
 go_enter Tryz.func66,Tryz.ntmps66;go_wp2_with fail
 go_loopg [8] n (fun g s8 wx=>Idx9 w n g s8 wx)
 case atStart=>exact H0.out
 case round =>
  clear H0;obtain ⟨i,rfl,hin,hg,hG⟩:=hrel;have G:=hid hG;have HG:=hid hg;clear hG hg
  by_cases hlt:i<n
  ·have hlt':(i:Int)<(n:Int):=by omega
   obtain ⟨b1,o1,rfl⟩:=F0.out (fun e=>by have:=HN.out;rw [e] at this;simp at this;omega);have k0:=(V0.out.now G.out).at (i:=i) (by rw [HN.out];exact hlt);have hx:=HA.out i (by rw [HN.out];exact hlt);have HS:=hid (below1_no (cnow G.out P0.out) hx.1 hx.2);have hw:=zNA (i:=i) (by omega);generalize is[i]'(by rw [HN.out];exact hlt)=x at *;clear hx;go_wp2_with fail;refine HS.out.mono ?_;rintro e w1 ⟨rfl,q⟩;rw [q];have HN1:Hid (Idx9 w n (n-(i+1)) (.int .i64 ((i+1:Nat):Int)) wr):=⟨i+1,rfl,by omega,rfl,G.out⟩
   have HMM:Hid (n-(i+1)<gk):=by unfold Hid;rw [HG.out];omega
   clear HS G HG k0 q;go_wp2_with fail;go_roundg (n-(i+1))
   case rel=>exact HN1.out
   case measure=>exact HMM.out
  ·have hlt':¬(i:Int)<(n:Int):=by omega
   clear HG;go_wp2;go_ret;exact ⟨rfl,G.out⟩
theorem contains9 {w:World} {v:Value} {is:List Int} {b:Int} {pb:Nat} (hv:In9 w v is) (hp:w.cell? ⟨pb,0,none⟩=some (.int .i64 b)) (ha:∀x∈is,0≤x∧x<b) :
  Calls Tryz.prog 51 #[v,zWH pb] w fun e w'=>e=.returned (.bool false)∧Below w.heap.size w w':=by
 have HI:=hid (index9 hv hp ha);obtain ⟨a0,c0,rfl,-,-,-⟩:=hv.form;clear hv hp ha;go_enter Tryz.func51,Tryz.ntmps51;go_wp2_with fail;refine HI.out.mono ?_;rintro e w1 ⟨rfl,b⟩;have G:=hid b;clear HI b;go_wp2;go_ret;exact ⟨rfl,G.out⟩
theorem zID {w:World} {v:Value} {is:List Int} {b:Int} (hv:In9 w v is) (ha:∀x∈is,0≤x∧x<b) :
  Calls Tryz.prog 93 #[v,.int .i64 b] w fun e w'=>e=.returned (.bool true)∧Below w.heap.size w w':=by
 obtain ⟨W0,hW⟩:∃W0,w.alloc (.cells #[.int .i64 b] 3)=W0:=⟨_,rfl⟩
 obtain ⟨b0,sz0⟩:=alo1 w (.cells #[.int .i64 b] 3);rw [hW] at b0 sz0;have hp:W0.cell? ⟨w.heap.size,0,none⟩=some (.int .i64 b):=by rw [←hW];exact (Cel.new w 3 [.int .i64 b]).at (i:=0) rfl
 have HC:=hid (contains9 (hv.now b0) hp ha);obtain ⟨a0,c0,rfl,-,-,-⟩:=hv.form;have G0:=hid b0;have EW:=hid hW;clear hv ha b0 hW sz0 hp;go_enter Tryz.func93,Tryz.ntmps93;go_wp2_with fail;rw [EW.out];refine HC.out.mono ?_;rintro e w1 ⟨rfl,b⟩;have G:=hid (zBA G0.out b);clear HC G0 EW b;go_wp2;go_ret;exact ⟨rfl,G.out⟩
end Go.Proofs.YtjnokjgbeploaaaGreat
