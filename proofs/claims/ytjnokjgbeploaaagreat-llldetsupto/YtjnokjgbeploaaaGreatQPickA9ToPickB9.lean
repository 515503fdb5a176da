/-
 QPickA9ToPickB9: PickA9, PickB9, joined.
-/
import Derived.Test.YtjnokjgbeploaaaGreatQSo13ToInts9

set_option maxRecDepth 100000
set_option maxHeartbeats 6400000
set_option linter.unusedVariables false
set_option linter.unusedSimpArgs false
namespace Go.Proofs.YtjnokjgbeploaaaGreat
open Go.RowKit
def ent9 (zss:List (List Int)) (i j:Nat):Int:=(zss.getD i []).getD j 0
theorem pick11_any {w:World} {B pb ib k i j:Nat} {v:Value} {pss:List (List (Value×Value))} {zss:List (List Int)} (hp:w.cell? ⟨pb,0,none⟩=some v) (hv:Prr B w v pss) (hz:Ziss w pss zss k) (hi:w.cell? ⟨ib,0,none⟩=some (.int .i64 (i:Int))) (hil:i<pss.length) (hjl:j<(zss.getD i []).length) :
  Calls Tryz.prog 97 #[.int .i64 (j:Int),.pointer (some ⟨pb,0,none⟩),.pointer (some ⟨ib,0,none⟩)] w (zWA w (ent9 zss i j) k):=by
 obtain ⟨W0,hW⟩:∃W0,w.alloc zbox=W0:=⟨_,rfl⟩
 obtain ⟨b0,sz0⟩:=alo1 w zbox;rw [hW] at b0 sz0;have P3:Hid (Duo W0 w.heap.size (.bool false) (.slice none 0 0)):=by unfold Hid;rw [←hW];exact Duo.new w _ _
 obtain ⟨a0,c0,rfl,hc0,hn0,hf0⟩:=hv.form;obtain ⟨b1,o1,rfl⟩:=hf0 (fun e=>by rw [e] at hil;simp at hil);have hpi:pss[i]?=some pss[i]:=List.getElem?_eq_getElem hil;obtain ⟨u,k0,pu⟩:=hv.at (i:=i) hpi;have hzl:=zME pu (hz.2 i _ hpi);obtain ⟨a1,c1,rfl,hc1,hn1,hf1⟩:=hzl.form9;obtain ⟨b2,o2,rfl⟩:=hf1 (fun e=>by rw [e] at hjl;simp at hjl);obtain ⟨nf,xf,adf,qf,e0,e1,zf⟩:=hzl.at9 (i:=j) hjl;rw [zRC] at zf;have HS:=hid (zQC (zf.now b0));have k1:(w.alloc zbox).cell? ⟨pb,0,none⟩=some (.slice (some ⟨b1,o1,none⟩) pss.length c0):=by rw [hW];exact cnow b0 hp
 have k2:(w.alloc zbox).cell? ⟨ib,0,none⟩=some (.int .i64 (i:Int)):=by rw [hW];exact cnow b0 hi
 have k3:(w.alloc zbox).cell? ⟨b1,o1+i,none⟩=some (.slice (some ⟨b2,o2,none⟩) (zss.getD i []).length c1):=by rw [hW];exact cnow b0 k0
 have k4:(w.alloc zbox).cell? ⟨b2,o2+j*2,none⟩=some (.bool nf):=by rw [hW];exact cnow b0 e0
 have k5:(w.alloc zbox).cell? ⟨b2,o2+j*2+1,none⟩=some (.slice adf xf.length qf):=by rw [hW];exact cnow b0 e1
 have hi':(i:Int)<(pss.length:Int):=by omega
 have hj':(j:Int)<((zss.getD i []).length:Int):=by omega
 have G0:=hid b0;have EW:=hid hW;have SZ:=hid sz0;have EE:Hid (ent9 zss i j=(zss.getD i []).getD j 0):=rfl;rw [EE.out];clear b0 hW sz0 hp hv hz hi hf0 hf1 hpi k0 pu hzl e0 e1 zf EE;generalize (zss.getD i []).getD j 0=dd at *;generalize (zss.getD i []).length=ln at *;generalize pss.length=lp at *;go_enter Tryz.func97,Tryz.ntmps97;go_wp2_with fail;rw [EW.out];refine HS.out.mono ?_;rintro e w1 ⟨r,rfl,m1,b⟩;obtain ⟨nr,xr,ar,cr,rfl⟩:=m1.parts;have P31:=hid (P3.out.step b);have G1:=hid (zBA G0.out b);have HM:=hid m1;have HB:Hid (w.heap.size<W0.heap.size):=by unfold Hid;rw [SZ.out];omega
 have r0:=P31.out.c0;have r1:=P31.out.c1;have f0:=P31.out.fz 0;have f1:=P31.out.fz 1;clear HS P3 G0 EW m1 b SZ k1 k2 k3 k4 k5;go_wp2;exact bodyPost_ret (znA Tryz.results97 (P31.out.set _ _) _ (by rfl)) rfl ⟨_,rfl,(HM.out.mono (Nat.le_of_lt HB.out)).box P31.out _ _,bset (bset G1.out (Nat.le_refl _)) (Nat.le_refl _)⟩
abbrev fnPick2 (pb ib:Nat):Value:=.func (.func 97) #[] #[.pointer (some ⟨pb,0,none⟩),.pointer (some ⟨ib,0,none⟩)]
theorem eachPick2_any {w:World} {B pb ib k i:Nat} {v jv:Value} {pss:List (List (Value×Value))} {zss:List (List Int)} {js:List Nat} (hj:In9 w jv (js.map (fun n:Nat=>(n:Int)))) (hp:w.cell? ⟨pb,0,none⟩=some v) (hv:Prr B w v pss) (hz:Ziss w pss zss k) (hi:w.cell? ⟨ib,0,none⟩=some (.int .i64 (i:Int))) (hil:i<pss.length) (hjl:∀j∈js,j<(zss.getD i []).length) :
  Calls Tryz.prog 96 #[jv,fnPick2 pb ib] w (zcB w (js.map (ent9 zss i)) k):=by
 have J0:=hid hj;have V0:=hid hv;have Z0:=hid hz;have P0:=hid hp;have I0:=hid hi;have HIL:=hid hil;have HJL:Hid (∀j (h:j<js.length),js[j]<(zss.getD i []).length):=fun j h=>hjl _ (List.getElem_mem h)
 have HMP:Hid (js.map (ent9 zss i)=(List.range js.length).map fun j=>ent9 zss i (js.getD j 0)):=by
  unfold Hid
  apply List.ext_getElem
  ·simp
  ·intro j h1 h2
   simp at h1;simp [h1]
 obtain ⟨a0,c0,rfl,hc0,hn0,hf0⟩:=hj.form;obtain ⟨n,hn⟩:∃n,js.length=n:=⟨_,rfl⟩
 rw [List.length_map,hn] at J0 hc0 hn0 ⊢;rw [hn] at HMP;have HN:=hid hn;have F0:=hid hf0;clear hj hv hz hp hi hil hjl hf0 hn;generalize js.map (ent9 zss i)=RS at *;go_enter Tryz.func96,Tryz.ntmps96;go_wp2_with (at_make;refine zUA _ rfl _ _ rfl _ _ n n rfl rfl rfl rfl (Nat.le_refl _) (by omega) ?_)
 intro w1 hrow hb1 hsz1;have H0:Hid (zKD w w.heap.size n (fun j=>ent9 zss i (js.getD j 0)) k n (.int .i64 0) w1):=⟨0,rfl,Nat.zero_le _,by omega,Fil.start hrow _ _,hb1⟩
 clear hrow hb1 hsz1;go_wp2_with fail
 go_loopg [13] n (fun gk s13 wx=>zKD w w.heap.size n (fun j=>ent9 zss i (js.getD j 0)) k gk s13 wx)
 case atStart=>exact H0.out
 case round =>
  clear H0;obtain ⟨t,rfl,hin,hg,hfil,hG⟩:=hrel;have FI:=hid hfil;have G:=hid hG;have HG:=hid hg;clear hfil hG hg
  by_cases hlt:t<n
  ·have hlt':(t:Int)<(n:Int):=by omega
   obtain ⟨b1,o1,rfl⟩:=F0.out (fun e=>by have:=HN.out;simp at e;rw [e] at this;simp at this;omega);have ht:t<js.length:=by rw [HN.out];exact hlt
   have k0:=(J0.out.now G.out).at (i:=t) (by rw [List.length_map];exact ht);rw [List.getElem_map] at k0;have HS:=hid (pick11_any (cnow G.out P0.out) (V0.out.now G.out) (Z0.out.now G.out) (cnow G.out I0.out) HIL.out (HJL.out t ht));have ej:js[t]=js.getD t 0:=by simp [ht]
   rw [ej] at k0 HS;have hw:=zNA (i:=t) (by omega);clear ej ht;generalize hjt:js.getD t 0=jt at *;have HJT:=hid hjt;clear hjt;go_wp2_with fail;refine HS.out.mono ?_;rintro e w1 ⟨r,rfl,m1,b⟩;have FI1:=hid (FI.out.step b);have G1:=hid (zBA G.out b);have M1:=hid m1.zc;obtain ⟨nr,xr,ar,cr,rfl⟩:=m1.parts;obtain ⟨m0,am,lm,cm,e0,e1,e2,e3⟩:=FI1.out.cells hlt;have HN1:Hid (zKD w w.heap.size n (fun j=>ent9 zss i (js.getD j 0)) k (n-(t+1)) (.int .i64 ((t+1:Nat):Int)) ((w1.setCell ⟨w.heap.size,t*2,none⟩ (.bool nr)).setCell ⟨w.heap.size,t*2+1,none⟩ (.slice ar xr.length cr))) :=
    ⟨t+1,rfl,by omega,rfl,FI1.out.put hlt (by rw [HJT.out];exact M1.out),bset (bset G1.out (Nat.le_refl _)) (Nat.le_refl _)⟩
   have HMM:Hid (n-(t+1)<gk):=by unfold Hid;rw [HG.out];omega
   clear HS FI G HG FI1 G1 M1 m1 b k0 HJT;go_wp2_with fail;go_roundg (n-(t+1))
   case rel=>exact HN1.out
   case measure=>exact HMM.out
  ·have hlt':¬(t:Int)<(n:Int):=by omega
   obtain rfl:t=n:=by omega
   obtain ⟨ps,p1,p2⟩:=FI.out.done (B:=w.heap.size) (Nat.le_refl _) (by omega);rw [←HMP.out] at p2;have FIN:Hid (zcB w RS k (.returned (.slice (some ⟨w.heap.size,0,none⟩) t t)) wr):=⟨_,ps,rfl,p1,p2,G.out⟩
   clear FI G HG p1 p2;go_wp2;go_ret;exact FIN.out
theorem pick1_any {w:World} {B pb cb k i:Nat} {v jv:Value} {pss:List (List (Value×Value))} {zss:List (List Int)} {js:List Nat} (hc:w.cell? ⟨cb,0,none⟩=some jv) (hj:In9 w jv (js.map (fun n:Nat=>(n:Int)))) (hp:w.cell? ⟨pb,0,none⟩=some v) (hv:Prr B w v pss) (hz:Ziss w pss zss k) (hil:i<pss.length) (hjl:∀j∈js,j<(zss.getD i []).length) :
  Calls Tryz.prog 95 #[.int .i64 (i:Int),.pointer (some ⟨cb,0,none⟩),.pointer (some ⟨pb,0,none⟩)] w (zcB w (js.map (ent9 zss i)) k):=by
 obtain ⟨W0,hW⟩:∃W0,w.alloc (.cells #[.int .i64 (i:Int)] 3)=W0:=⟨_,rfl⟩
 obtain ⟨b0,sz0⟩:=alo1 w (.cells #[.int .i64 (i:Int)] 3);rw [hW] at b0 sz0;have hi:W0.cell? ⟨w.heap.size,0,none⟩=some (.int .i64 (i:Int)):=by rw [←hW];exact (Cel.new w 3 [.int .i64 (i:Int)]).at (i:=0) rfl
 have HC:=hid (eachPick2_any (hj.now b0) (cnow b0 hp) (hv.now b0) (hz.now b0) hi hil hjl);obtain ⟨a0,c0,rfl,-,-,-⟩:=hj.form;have k0:(w.alloc (.cells #[.int .i64 (i:Int)] 3)).cell? ⟨cb,0,none⟩=some (.slice a0 (js.map (fun n:Nat=>(n:Int))).length c0):=by rw [hW];exact cnow b0 hc
 have G0:=hid b0;have EW:=hid hW;clear hc hj hp hv hz hil hjl b0 hW sz0 hi;generalize js.map (ent9 zss i)=RS at *;generalize (js.map (fun n:Nat=>(n:Int))).length=lj at *;go_enter Tryz.func95,Tryz.ntmps95;go_wp2_with fail;rw [EW.out];refine HC.out.mono ?_;rintro e w1 ⟨u,ps,rfl,p1,p2,b⟩;have FIN:Hid (zcB w RS k (.returned u) w1):=⟨u,ps,rfl,p1.mono G0.out.size,p2,zBA G0.out b⟩
 clear HC G0 EW p1 p2 b k0;go_wp2;go_ret;exact FIN.out
abbrev fnPick1 (cb pb:Nat):Value:=.func (.func 95) #[] #[.pointer (some ⟨cb,0,none⟩),.pointer (some ⟨pb,0,none⟩)]
abbrev natv (js:List Nat):List Int:=js.map (fun n:Nat=>(n:Int))
def pickR (zss:List (List Int)) (is js:List Nat):List (List Int):=is.map fun i=>js.map (ent9 zss i)
theorem eachPick1_any {w:World} {B pb cb k:Nat} {v iv jv:Value} {pss:List (List (Value×Value))} {zss:List (List Int)} {is js:List Nat} (hi:In9 w iv (natv is)) (hc:w.cell? ⟨cb,0,none⟩=some jv) (hj:In9 w jv (natv js)) (hp:w.cell? ⟨pb,0,none⟩=some v) (hv:Prr B w v pss) (hz:Ziss w pss zss k) (hil:∀i∈is,i<pss.length) (hjl:∀i∈is,∀j∈js,j<(zss.getD i []).length) :
  Calls Tryz.prog 94 #[iv,fnPick1 cb pb] w (zkE w (pickR zss is js) k):=by
 have I0:=hid hi;have J0:=hid hj;have C0:=hid hc;have V0:=hid hv;have Z0:=hid hz;have P0:=hid hp;have HIL:Hid (∀t (h:t<is.length),is[t]<pss.length):=fun t h=>hil _ (List.getElem_mem h)
 have HJL:Hid (∀t (h:t<is.length),∀j∈js,j<(zss.getD is[t] []).length):=fun t h=>hjl _ (List.getElem_mem h)
 obtain ⟨RS,hRS⟩:∃RS,pickR zss is js=RS:=⟨_,rfl⟩
 have HR:Hid (∀t (h:t<is.length),RS.getD t []=js.map (ent9 zss is[t])):=fun t h=>by rw [←hRS];unfold pickR;simp [h]
 have HRL:Hid (RS.length=is.length):=by unfold Hid;rw [←hRS];unfold pickR;simp
 rw [hRS];obtain ⟨a0,c0,rfl,hc0,hn0,hf0⟩:=hi.form;obtain ⟨n,hn⟩:∃n,is.length=n:=⟨_,rfl⟩
 rw [List.length_map,hn] at I0 hc0 hn0 ⊢;rw [hn] at HRL;have HN:=hid hn;have F0:=hid hf0;clear hi hc hj hp hv hz hil hjl hf0 hn hRS;go_enter Tryz.func94,Tryz.ntmps94;go_wp2_with (at_make;refine zpA _ rfl _ _ rfl _ _ n n rfl rfl rfl rfl (Nat.le_refl _) (by omega) ?_)
 intro w1 hrow hb1 hsz1;have H0:Hid (zlG w w.heap.size n k RS n (.int .i64 0) w1):=⟨0,rfl,Nat.zero_le _,by omega,FilR.start hrow _,hb1⟩
 clear hrow hb1 hsz1;go_wp2_with fail
 go_loopg [13] n (fun gk s13 wx=>zlG w w.heap.size n k RS gk s13 wx)
 case atStart=>exact H0.out
 case round =>
  clear H0;obtain ⟨t,rfl,hin,hg,hfil,hG⟩:=hrel;have FI:=hid hfil;have G:=hid hG;have HG:=hid hg;clear hfil hG hg
  by_cases hlt:t<n
  ·have hlt':(t:Int)<(n:Int):=by omega
   obtain ⟨b1,o1,rfl⟩:=F0.out (fun e=>by have:=HN.out;simp at e;rw [e] at this;simp at this;omega);have ht:t<is.length:=by rw [HN.out];exact hlt
   have k0:=(I0.out.now G.out).at (i:=t) (by rw [List.length_map];exact ht);rw [List.getElem_map] at k0;have HS:=hid (pick1_any (cnow G.out C0.out) (J0.out.now G.out) (cnow G.out P0.out) (V0.out.now G.out) (Z0.out.now G.out) (HIL.out t ht) (HJL.out t ht));rw [←HR.out t ht] at HS;have hw:=zNA (i:=t) (by omega);generalize is[t]=it at *;clear ht;go_wp2_with fail;refine HS.out.mono ?_;rintro e w1 ⟨r,ps,rfl,p1,p2,b⟩;have FI1:Hid (FilR w1 w.heap.size n t (fun j u=>∃ps,Prs (w.heap.size+1) w1 u ps∧Zcs w1 ps (RS.getD j []) k)):=FI.out.step b (fun j u _ ⟨ps,q1,q2⟩=>⟨ps,q1.now b,q2.now b⟩);have G1:=hid (zBA G.out b);have M1:=hid (p1.mono (show w.heap.size+1≤wr.heap.size by have:=FI.out.blk;omega));have M2:=hid p2;obtain ⟨ar,cr,rfl,-,-,-,-⟩:=p1.form;obtain ⟨u0,e0,e1⟩:=FI1.out.cells hlt;have HN1:Hid (zlG w w.heap.size n k RS (n-(t+1)) (.int .i64 ((t+1:Nat):Int)) (w1.setCell ⟨w.heap.size,t,none⟩ (.slice ar ps.length cr))) :=
    ⟨t+1,rfl,by omega,rfl,FI1.out.put hlt (fun j u _ ⟨qs,q1,q2⟩=>⟨qs,q1.off (Nat.lt_succ_self _),q2.wk (FI1.out.wk hlt _)⟩) ⟨ps,M1.out.off (Nat.lt_succ_self _),M2.out.wk (FI1.out.wk hlt _)⟩ (noS _ _ _),bset G1.out (Nat.le_refl _)⟩
   have HMM:Hid (n-(t+1)<gk):=by unfold Hid;rw [HG.out];omega
   clear HS FI G HG FI1 G1 M1 M2 p1 p2 b k0;go_wp2_with fail;go_roundg (n-(t+1))
   case rel=>exact HN1.out
   case measure=>exact HMM.out
  ·have hlt':¬(t:Int)<(n:Int):=by omega
   obtain rfl:t=n:=by omega
   obtain ⟨qs,q1,q2⟩:=zMF FI.out HRL.out (by omega);have FIN:Hid (zkE w RS k (.returned (.slice (some ⟨w.heap.size,0,none⟩) t t)) wr):=⟨_,qs,rfl,q1.mono (Nat.le_succ _),q2,G.out⟩
   clear FI G HG q1 q2;go_wp2;go_ret;exact FIN.out
theorem pick_boxes {w W0:World} {o1:List Value} {jv:Value} (hW:((w.alloc (.cells o1.toArray 24)).alloc (.cells #[jv] 47)).alloc mbox=W0) :
  Cel W0 w.heap.size 24 o1∧Cel W0 (w.heap.size+1) 47 [jv]∧Cel W0 (w.heap.size+1+1) 24 [.int .i64 0,.int .i64 0,.slice none 0 0]:=by
 refine ⟨?_,?_,?_⟩
 ·rw [←hW]
  exact (((Cel.new w 24 o1).step ((Below.refl _ _).alloc (Nat.le_refl _) _)).step ((Below.refl _ _).alloc (Nat.le_refl _) _))
 ·rw [←hW]
  have:=((Cel.new (w.alloc (.cells o1.toArray 24)) 47 [jv]).step ((Below.refl _ _).alloc (Nat.le_refl _) mbox))
  simpa using this
 ·rw [←hW]
  have:=Cel.new ((w.alloc (.cells o1.toArray 24)).alloc (.cells #[jv] 47)) 24 [.int .i64 0,.int .i64 0,.slice none 0 0]
  simpa using this
def zjG (r c:Nat) (zs:List Int) (is js:List Nat):List Int:=(pickR (rowsL r c zs) is js).flatten
theorem pickR_len {zss:List (List Int)} {is js:List Nat}:(pickR zss is js).flatten.length=is.length*js.length:=by
 induction is with
 | nil=>simp [pickR]
 | cons i t ih =>
  unfold pickR at ih ⊢;rw [List.map_cons,List.flatten_cons,List.length_append,ih,List.length_map,List.length_cons,Nat.add_mul,Nat.one_mul,Nat.add_comm]
theorem pick_yes {w:World} {va iv jv:Value} {r c k:Nat} {zs:List Int} {is js:List Nat} (ha:Mx w va r c zs k) (hi:In9 w iv (natv is)) (hj:In9 w jv (natv js)) (hil:∀i∈is,i<r) (hjl:∀j∈js,j<c) (his:is.length≤64) (hjs:js.length≤64) :
  Calls Tryz.prog 82 #[va,iv,jv] w (zUB w is.length js.length (zjG r c zs is js) k):=by
 have M0:=ha;obtain ⟨at_,pa,rfl,pa1,pa2,pa3,hr,hcc⟩:=ha;obtain ⟨aa,ca,rfl,-,-,-,-⟩:=pa1.form;generalize hla:pa.length=la at *;have I0:=hid hi;have J0:=hid hj;obtain ⟨ai,ci,rfl,hci,-,-⟩:=hi.form;obtain ⟨aj,cj,rfl,hcj,-,-⟩:=hj.form;rw [List.length_map] at I0 J0 hci hcj ⊢;rw [List.length_map];obtain ⟨W0,hW⟩:∃W0,((w.alloc (matO r c (.slice aa la ca))).alloc (.cells #[.slice aj js.length cj] 47)).alloc mbox=W0:=⟨_,rfl⟩
 obtain ⟨b0,sz0⟩:=znB w (matO r c (.slice aa la ca)) (.cells #[.slice aj js.length cj] 47) mbox;rw [hW] at b0 sz0;obtain ⟨cpa,cpj,cpr⟩:=pick_boxes (o1:=matc r c (.slice aa la ca)) hW;have HCK:=hid (zIB (M0.now b0));have HB1:Hid (∀x∈natv is,(0:Int)≤x∧x<(r:Int)):=fun x hx=>by
  obtain ⟨i,hi,rfl⟩:=List.mem_map.1 hx;have:=hil i hi;omega
 have HB2:Hid (∀x∈natv js,(0:Int)≤x∧x<(c:Int)):=fun x hx=>by
  obtain ⟨i,hi,rfl⟩:=List.mem_map.1 hx;have:=hjl i hi;omega
 have HRL:Hid ((rowsL r c pa).length=r):=by unfold Hid;simp [rowsL]
 have HZR:=hid ((zmE (r:=r) (m:=c) pa2).now b0);have HRW:Hid (∀i∈is,∀j∈js,j<((rowsL r c zs).getD i []).length):=fun i hi j hj=>by
  have h1:i<(rowsL r c zs).length:=by simp [rowsL];exact hil i hi
  have h2:(rowsL r c zs).getD i []=(rowsL r c zs)[i]:=by simp [h1]
  rw [h2,zFG pa3 _ (List.getElem_mem h1)];exact hjl j hj
 have HIL:=hid hil;have A1:=hid (pa1.now b0);have HLA:Hid (pa.length=r*c):=by unfold Hid;rw [pa2.1,pa3]
 have PA:=hid cpa;have PJ:=hid cpj;have PR:=hid cpr;have x0:=cpa.at (i:=0) rfl;have x1:=cpa.at (i:=1) rfl;have x2:=cpa.at (i:=2) rfl;have y0:=cpj.at (i:=0) rfl;rw [←hW] at x0 x1 x2 y0;have I1:=hid (I0.out.now b0);have J1:=hid (J0.out.now b0);have G0:=hid b0;have SZ:=hid sz0;have EW:=hid hW;clear M0 pa1 pa2 pa3 hi hj hil hjl b0 sz0 hW cpa cpj cpr I0 J0 hla;go_enter Tryz.func82,Tryz.ntmps82;go_wp2_with fail;rw [EW.out];refine HCK.out.mono ?_;rintro e w1 ⟨rfl,b⟩;have G:=hid b;clear HCK b EW x0 x1 x2 y0;have x0:=(PA.out.step G.out).at (i:=0) rfl;have x1:=(PA.out.step G.out).at (i:=1) rfl;have x2:=(PA.out.step G.out).at (i:=2) rfl;have y0:=(PJ.out.step G.out).at (i:=0) rfl;go_wp2_with fail;refine (zID (I1.out.now G.out) HB1.out).mono ?_;rintro e w2 ⟨rfl,b⟩;replace G:=hid (zBA G.out b);clear b x0 x1 x2 y0;have x0:=(PA.out.step G.out).at (i:=0) rfl;have x1:=(PA.out.step G.out).at (i:=1) rfl;have x2:=(PA.out.step G.out).at (i:=2) rfl;have y0:=(PJ.out.step G.out).at (i:=0) rfl;go_wp2_with fail;refine (zID (J1.out.now G.out) HB2.out).mono ?_;rintro e w3 ⟨rfl,b⟩;replace G:=hid (zBA G.out b);clear b x0 x1 x2 y0;have x0:=(PA.out.step G.out).at (i:=0) rfl;have x1:=(PA.out.step G.out).at (i:=1) rfl;have x2:=(PA.out.step G.out).at (i:=2) rfl;have y0:=(PJ.out.step G.out).at (i:=0) rfl;go_wp2_with fail;refine (zlD his hjs).mono ?_;rintro e w4 ⟨rfl,b⟩;rw [b];clear b;go_wp2_with fail;refine (rowsOf_any (A1.out.now G.out) HLA.out hr hcc).mono ?_;rintro e w5 ⟨u,rfl,q1,b⟩;obtain ⟨au,cu,rfl,-,-,-⟩:=q1.form;rw [HRL.out] at q1 ⊢;obtain ⟨V1,hV⟩:∃V1,w5.alloc (.cells #[.slice au r cu] 48)=V1:=⟨_,rfl⟩
 obtain ⟨b1,sz1⟩:=alo1 w5 (.cells #[.slice au r cu] 48);rw [hV] at b1 sz1;replace G:=hid (zBA G.out (zBA b b1));have hcol:V1.cell? ⟨w5.heap.size,0,none⟩=some (.slice au r cu):=by rw [←hV];exact (Cel.new w5 48 [.slice au r cu]).at (i:=0) rfl
 have HER:=hid (eachPick1_any (I1.out.now G.out) ((PJ.out.step G.out).at (i:=0) rfl) (J1.out.now G.out) hcol (q1.now b1) (HZR.out.now G.out) (by rw [HRL.out];exact HIL.out) HRW.out);have EV:=hid hV;clear b b1 sz1 hV hcol q1 x0 x1 x2 y0;go_wp2_with fail;rw [EV.out];refine HER.out.mono ?_;rintro e w6 ⟨u3,p3,rfl,q3,z3,b⟩;replace G:=hid (zBA G.out b);have Z3:=hid z3;have HP3:Hid (p3.length=is.length):=by unfold Hid;rw [z3.1];simp [pickR]
 have hsm:zoH js.length p3:=zzG z3 (by intro z hz;unfold pickR at hz;simp only [List.mem_map] at hz;obtain ⟨row,_,rfl⟩:=hz;simp);have hrc:is.length*js.length≤64*64:=Nat.mul_le_mul his hjs;have HOF:=hid (zoC (C:=js.length) q3 hsm (by rw [HP3.out];omega) (by omega) HP3.out);obtain ⟨a3,c3,rfl,-,-,-⟩:=q3.form;have y0:=(PJ.out.step G.out).at (i:=0) rfl;clear HER q3 z3 b hsm hrc EV;go_wp2_with fail;refine HOF.out.mono ?_;rintro e w7 ⟨at4,rfl,q4,b⟩;have HB6:Hid (w.heap.size+1+1<w6.heap.size):=by unfold Hid;have h1:=SZ.out;have h2:=G.out.size;omega
 replace G:=hid (zBA G.out b);have PR4:=hid (PR.out.step G.out);obtain ⟨a4,c4,rfl,-,-,-,-⟩:=q4.form;have FIN:Hid (zUB w is.length js.length (zjG r c zs is js) k (.returned (.tuple #[.agg #[.int .i64 (is.length:Int),.int .i64 (js.length:Int),.slice a4 p3.flatten.length c4],.int .i64 0])) (put3 w7 (w.heap.size+1+1) (.int .i64 (is.length:Int)) (.int .i64 (js.length:Int)) (.slice a4 p3.flatten.length c4))) :=
  ⟨_,rfl,⟨_,p3.flatten,rfl,(q4.put3 HB6.out _ _ _).mono (Nat.zero_le _),((Zcss.flat Z3.out).now b).wk (PR4.out.wk3 _ _ _),pickR_len,his,hjs⟩,zSA (zBA G0.out G.out) (by omega) _ _ _⟩
 have PF:=hid (PR4.out.put3 (.int .i64 (is.length:Int)) (.int .i64 (js.length:Int)) (.slice a4 p3.flatten.length c4));have r0:=PR4.out.at (i:=0) rfl;have r1:=PR4.out.at (i:=1) rfl;have r2:=PR4.out.at (i:=2) rfl;have f0:=PR4.out.fz 0;have f1:=PR4.out.fz 1;have f2:=PR4.out.fz 2;obtain ⟨L4,hL4⟩:∃L4,p3.flatten.length=L4:=⟨_,rfl⟩
 rw [hL4] at FIN PF ⊢;clear HOF q4 b hL4 y0;go_wp2;exact bodyPost_ret (zIC Tryz.results82 PF.out _ (by rfl) (by rfl)) rfl FIN.out
end Go.Proofs.YtjnokjgbeploaaaGreat
