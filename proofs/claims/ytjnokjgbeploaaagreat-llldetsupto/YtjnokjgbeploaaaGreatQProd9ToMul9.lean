/-
 QProd9ToMul9: Prod9, Mat9, Chk9, Mul9, joined.
-/
import Derived.Test.YtjnokjgbeploaaaGreatQCols9

set_option maxRecDepth 100000
set_option maxHeartbeats 6400000
set_option linter.unusedVariables false
set_option linter.unusedSimpArgs false
namespace Go.Proofs.YtjnokjgbeploaaaGreat
open Go.RowKit
def Zcss (w:World) (pss:List (List (Value×Value))) (zss:List (List Int)) (k:Nat):Prop:=pss.length=zss.length∧∀(j:Nat) (ps:List (Value×Value)),pss[j]?=some ps→Zcs w ps (zss.getD j []) k
theorem Zcs.append {w:World} {ps qs:List (Value×Value)} {zs ys:List Int} {k:Nat} (h:Zcs w ps zs k) (h':Zcs w qs ys k):Zcs w (ps ++ qs) (zs ++ ys) k:=by
 refine ⟨by simp [h.1,h'.1],fun j p z hp hz=>?_⟩
 by_cases q:j<ps.length
 ·rw [List.getElem?_append_left q] at hp
  rw [List.getElem?_append_left (by rw [←h.1];exact q)] at hz;exact h.2 j p z hp hz
 ·rw [List.getElem?_append_right (by omega)] at hp
  rw [List.getElem?_append_right (by rw [←h.1];omega),←h.1] at hz;exact h'.2 _ p z hp hz
theorem Zcss.flat {w:World} {k:Nat}:∀ {pss:List (List (Value×Value))} {zss:List (List Int)},Zcss w pss zss k→Zcs w pss.flatten zss.flatten k
 | [],[],_=>⟨rfl,fun j p z hp=>by simp at hp⟩
 | [],z :: zss,h=>by have:=h.1;simp at this
 | p :: pss,[],h=>by have:=h.1;simp at this
 | p :: pss,z :: zss,h=>by
  have h1:=h.2 0 p rfl;have h2:Zcss w pss zss k:=⟨by have:=h.1;simpa using this,fun j ps hp=>by simpa using h.2 (j+1) ps (by simpa using hp)⟩
  simpa using Zcs.append h1 (Zcss.flat h2)
theorem Zis.isI {w:World} {ps:List (Value×Value)} {zs:List Int} {k:Nat} (h:Zis w ps zs k):∀p∈ps,IsI p:=fun p hp=>by
 obtain ⟨j,hj,e⟩:=List.getElem_of_mem hp;have h1:ps[j]?=some p:=by rw [List.getElem?_eq_getElem hj,e]
 have h2:zs[j]?=some (zs[j]'(by rw [←h.1];exact hj)):=List.getElem?_eq_getElem _;exact (h.2 j p _ h1 h2).isI
def zkE (w:World) (zss:List (List Int)) (k:Nat) (e:Ending) (w':World):Prop:=∃u pss,e=.returned u∧Prr w.heap.size w' u pss∧Zcss w' pss zss k∧Below w.heap.size w w'
theorem zMF {w:World} {g n B k:Nat} {zss:List (List Int)} (h:FilR w g n n (fun j u=>∃ps,Prs B w u ps∧Zcs w ps (zss.getD j []) k)) (hl:zss.length=n) (hn:n≤1048576):∃pss,Prr B w (.slice (some ⟨g,0,none⟩) n n) pss∧Zcss w pss zss k:=by
 have h0:=h;obtain ⟨vs,h1,h2,hw,h3⟩:=h;obtain ⟨q,hq⟩:=Deep.choose_lt (α:=List (Value×Value)) (n:=n) (p:=fun j ps=>∀u,vs[j]?=some u→Prs B w u ps∧Zcs w ps (zss.getD j []) k) (fun j hj=>by
  obtain ⟨ps,p1,p2⟩:=h3 j _ hj (List.getElem?_eq_getElem (by omega));refine ⟨ps,fun u hu=>?_⟩;rw [List.getElem?_eq_getElem (by omega),Option.some.injEq] at hu;rw [←hu];exact ⟨p1,p2⟩)
 have key:∀j ps,((List.range n).map q)[j]?=some ps→j<n∧ps=q j:=fun j ps hp=>by
  have hj:j<n:=by simpa using (List.getElem?_eq_some_iff.1 hp).1
  rw [List.getElem?_map,List.getElem?_range hj] at hp;exact ⟨hj,by simpa using hp.symm⟩
 have hv:∀j (hj:j<n),vs[j]?=some (vs[j]'(by omega)):=fun j hj=>List.getElem?_eq_getElem (by omega)
 refine ⟨(List.range n).map q,⟨some ⟨g,0,none⟩,n,by simp,by simp,by simpa using hn,.inr ⟨g,0,rfl,h1.blk,fun j ps hp=>?_⟩⟩,by simp [hl],fun j ps hp=>?_⟩
 ·obtain ⟨hj,rfl⟩:=key j ps hp
  exact ⟨_,by rw [Nat.zero_add];exact h1.at (hv j hj),(hq j hj _ (hv j hj)).1⟩
 ·obtain ⟨hj,rfl⟩:=key j ps hp
  exact (hq j hj _ (hv j hj)).2
theorem product1_any {w:World} {B pb k l:Nat} {cv xv:Value} {pss:List (List (Value×Value))} {zss:List (List Int)} {xs:List Int} (hp:w.cell? ⟨pb,0,none⟩=some cv) (hv:Prr B w cv pss) (hz:Ziss w pss zss l) (hx:Zl w xv xs k) (he:∀ys∈zss,ys.length=xs.length) (hk:k+l+xs.length<35184372088832) :
  Calls Tryz.prog 42 #[xv,.pointer (some ⟨pb,0,none⟩)] w (zcB w (zss.map (dotv xs)) (k+l+xs.length)):=by
 have HC:=hid (dots_any hv hz hx he hk);obtain ⟨a1,c1,rfl,-,-,-⟩:=hx.form9;obtain ⟨a0,c0,rfl,-,-,-⟩:=hv.form;clear hv hz hx he hk;generalize zss.map (dotv xs)=RS at *;generalize k+l+xs.length=kk at *;go_enter Tryz.func42,Tryz.ntmps42;go_wp2_with fail;refine HC.out.mono ?_;rintro e w1 ⟨u,ps,rfl,p1,p2,b⟩;have FIN:Hid (zcB w RS kk (.returned u) w1):=⟨u,ps,rfl,p1,p2,b⟩
 clear HC p1 p2 b;go_wp2;go_ret;exact FIN.out
abbrev fnProd (pb:Nat):Value:=.func (.func 42) #[] #[.pointer (some ⟨pb,0,none⟩)]
def zlG (w:World) (g n k:Nat) (zss:List (List Int)) (gk:Nat) (s:Value) (wx:World):Prop :=
 ∃i:Nat,s=.int .i64 (i:Int)∧i≤n∧gk=n-i∧FilR wx g n i (fun j u=>∃ps,Prs (g+1) wx u ps∧Zcs wx ps (zss.getD j []) k)∧Below w.heap.size w wx
theorem eachRows_any {w:World} {B B' pb k l m:Nat} {v cv:Value} {pss qss:List (List (Value×Value))} {zss yss:List (List Int)} (hv:Prr B w v pss) (hz:Ziss w pss zss k) (hp:w.cell? ⟨pb,0,none⟩=some cv) (hc:Prr B' w cv qss) (hy:Ziss w qss yss l) (he:∀ys∈yss,ys.length=m) (hm:∀xs∈zss,xs.length=m) (hk:k+l+m<35184372088832) :
  Calls Tryz.prog 40 #[v,fnProd pb] w (zkE w (zss.map fun xs=>yss.map (dotv xs)) (k+l+m)):=by
 have V0:=hid hv;have Z0:=hid hz;have C0:=hid hp;have D0:=hid hc;have Y0:=hid hy;have HE:=hid he;have HXM:Hid (∀j,j<zss.length→(zss.getD j []).length=m):=fun j hj=>by
  have e:zss.getD j []=zss[j]:=by simp [hj]
  rw [e];exact hm _ (List.getElem_mem hj)
 have HK:=hid hk;obtain ⟨RS,hRS⟩:∃RS,(zss.map fun xs=>yss.map (dotv xs))=RS:=⟨_,rfl⟩
 have HR:Hid (∀j,j<zss.length→RS.getD j []=yss.map (dotv (zss.getD j []))):=fun j hj=>by rw [←hRS];simp [hj]
 have HRL:Hid (RS.length=zss.length):=by unfold Hid;rw [←hRS];simp
 rw [hRS];obtain ⟨a0,c0,rfl,hc0,hn0,hf0⟩:=hv.form;obtain ⟨n,hn⟩:∃n,pss.length=n:=⟨_,rfl⟩
 have hzl:=hz.1;rw [hn] at V0 hc0 hn0 hzl ⊢;rw [←hzl] at HR HXM HRL;have HN:=hid hn;have F0:=hid hf0;clear hv hz hp hc hy he hm hk hf0 hn hzl hRS;go_enter Tryz.func40,Tryz.ntmps40;go_wp2_with (at_make;refine zpA _ rfl _ _ rfl _ _ n n rfl rfl rfl rfl (Nat.le_refl _) (by omega) ?_)
 intro w1 hrow hb1 hsz1;have H0:Hid (zlG w w.heap.size n (k+l+m) RS n (.int .i64 0) w1):=⟨0,rfl,Nat.zero_le _,by omega,FilR.start hrow _,hb1⟩
 clear hrow hb1 hsz1;go_wp2_with fail
 go_loopg [13] n (fun gk s13 wx=>zlG w w.heap.size n (k+l+m) RS gk s13 wx)
 case atStart=>exact H0.out
 case round =>
  clear H0;obtain ⟨i,rfl,hin,hg,hfil,hG⟩:=hrel;have FI:=hid hfil;have G:=hid hG;have HG:=hid hg;clear hfil hG hg
  by_cases hlt:i<n
  ·have hlt':(i:Int)<(n:Int):=by omega
   obtain ⟨b1,o1,rfl⟩:=F0.out (fun e=>by have:=HN.out;rw [e] at this;simp at this;omega);have hpi:pss[i]?=some (pss[i]'(by rw [HN.out];exact hlt)):=List.getElem?_eq_getElem (by rw [HN.out];exact hlt);obtain ⟨u,k0,pu⟩:=(V0.out.now G.out).at (i:=i) hpi;have HS:=hid (product1_any (cnow G.out C0.out) (D0.out.now G.out) (Y0.out.now G.out) (zME pu ((Z0.out.2 i _ hpi).now G.out)) (fun ys hys=>by rw [HXM.out i hlt];exact HE.out ys hys) (by rw [HXM.out i hlt];exact HK.out));rw [HXM.out i hlt,←HR.out i hlt] at HS;obtain ⟨au,cu,rfl,-,-,-,-⟩:=pu.form;have hw:=zNA (i:=i) (by omega);clear hpi pu;go_wp2_with fail;refine HS.out.mono ?_;rintro e w1 ⟨r,ps,rfl,p1,p2,b⟩;have FI1:Hid (FilR w1 w.heap.size n i (fun j u=>∃ps,Prs (w.heap.size+1) w1 u ps∧Zcs w1 ps (RS.getD j []) (k+l+m))):=FI.out.step b (fun j u _ ⟨ps,q1,q2⟩=>⟨ps,q1.now b,q2.now b⟩);have G1:=hid (zBA G.out b);have M1:=hid (p1.mono (show w.heap.size+1≤wr.heap.size by have:=FI.out.blk;omega));have M2:=hid p2;obtain ⟨ar,cr,rfl,-,-,-,-⟩:=p1.form;obtain ⟨u0,e0,e1⟩:=FI1.out.cells hlt;have HN1:Hid (zlG w w.heap.size n (k+l+m) RS (n-(i+1)) (.int .i64 ((i+1:Nat):Int)) (w1.setCell ⟨w.heap.size,i,none⟩ (.slice ar ps.length cr))) :=
    ⟨i+1,rfl,by omega,rfl,FI1.out.put hlt (fun j u _ ⟨qs,q1,q2⟩=>⟨qs,q1.off (Nat.lt_succ_self _),q2.wk (FI1.out.wk hlt _)⟩) ⟨ps,M1.out.off (Nat.lt_succ_self _),M2.out.wk (FI1.out.wk hlt _)⟩ (noS _ _ _),bset G1.out (Nat.le_refl _)⟩
   have HMM:Hid (n-(i+1)<gk):=by unfold Hid;rw [HG.out];omega
   clear HS FI G HG FI1 G1 M1 M2 p1 p2 b k0;go_wp2_with fail;go_roundg (n-(i+1))
   case rel=>exact HN1.out
   case measure=>exact HMM.out
  ·have hlt':¬(i:Int)<(n:Int):=by omega
   obtain rfl:i=n:=by omega
   obtain ⟨qs,q1,q2⟩:=zMF FI.out HRL.out hn0;have FIN:Hid (zkE w RS (k+l+m) (.returned (.slice (some ⟨w.heap.size,0,none⟩) i i)) wr):=⟨_,qs,rfl,q1.mono (Nat.le_succ _),q2,G.out⟩
   clear FI G HG q1 q2;go_wp2;go_ret;exact FIN.out
def Mx (w:World) (v:Value) (r c:Nat) (zs:List Int) (k:Nat):Prop:=∃at_ ps,v=matv r c at_∧Prs 0 w at_ ps∧Zis w ps zs k∧zs.length=r*c∧r≤64∧c≤64
def Mc (w:World) (v:Value) (r c:Nat) (zs:List Int) (k:Nat):Prop:=∃at_ ps,v=matv r c at_∧Prs 0 w at_ ps∧Zcs w ps zs k∧zs.length=r*c∧r≤64∧c≤64
theorem Mx.now {w w':World} {v:Value} {r c:Nat} {zs:List Int} {k:Nat} (h:Mx w v r c zs k) (hb:Below w.heap.size w w'):Mx w' v r c zs k:=by
 obtain ⟨a,ps,h1,h2,h3,h4⟩:=h;exact ⟨a,ps,h1,h2.now hb,h3.now hb,h4⟩
theorem Mc.now {w w':World} {v:Value} {r c:Nat} {zs:List Int} {k:Nat} (h:Mc w v r c zs k) (hb:Below w.heap.size w w'):Mc w' v r c zs k:=by
 obtain ⟨a,ps,h1,h2,h3,h4⟩:=h;exact ⟨a,ps,h1,h2.now hb,h3.now hb,h4⟩
theorem Mc.mx {w:World} {v:Value} {r c:Nat} {zs:List Int} {k:Nat} (h:Mc w v r c zs k):Mx w v r c zs k:=by
 obtain ⟨a,ps,h1,h2,h3,h4⟩:=h;exact ⟨a,ps,h1,h2,h3.zis,h4⟩
theorem Mx.form {w:World} {v:Value} {r c:Nat} {zs:List Int} {k:Nat} (h:Mx w v r c zs k):∃a cap,v=matv r c (.slice a (r*c) cap)∧r≤64∧c≤64:=by
 obtain ⟨a,ps,h1,h2,h3,h4,h5,h6⟩:=h;obtain ⟨a0,c0,rfl,-,-,-,-⟩:=h2.form;rw [h3.1,h4] at h1;exact ⟨a0,c0,h1,h5,h6⟩
def zhG (w:World) (r c:Nat) (zs:List Int) (k:Nat) (e:Ending) (w':World):Prop:=∃v,e=.returned v∧Mc w' v r c zs k∧Below w.heap.size w w'
def zTE (r m c:Nat) (xs ys:List Int):List Int:=((rowsL r m xs).map fun row=>(colsL m c ys 0).map (dotv row)).flatten
theorem zmE {w:World} {ps:List (Value×Value)} {xs:List Int} {k r m:Nat} (h:Zis w ps xs k):Ziss w (rowsL r m ps) (rowsL r m xs) k:=by
 refine ⟨by simp [rowsL],fun j qs hq=>?_⟩;have hj:j<r:=by simpa [rowsL] using (List.getElem?_eq_some_iff.1 hq).1
 rw [zGG hj,Option.some.injEq] at hq;have e:(rowsL r m xs).getD j []=(xs.drop (j*m)).take m:=by simp [rowsL,hj]
 rw [e,←hq];refine ⟨by simp [h.1],fun t p z hp hz=>?_⟩;rw [List.getElem?_take] at hp hz
 by_cases q:t<m
 ·rw [if_pos q,List.getElem?_drop] at hp hz
  exact h.2 _ p z hp hz
 ·rw [if_neg q] at hp;cases hp
theorem znE {w:World} {ps:List (Value×Value)} {ys:List Int} {k m c:Nat} (h:Zis w ps ys k) (hl:ys.length=m*c):Ziss w (colsL m c ps zqA) (colsL m c ys 0) k:=by
 refine ⟨by simp [colsL],fun j qs hq=>?_⟩;have hj:j<c:=by simpa [colsL] using (List.getElem?_eq_some_iff.1 hq).1
 have e:(colsL m c ys 0).getD j []=colL c ys 0 m j:=by simp [colsL,hj]
 have e2:qs=colL c ps zqA m j:=by simp [colsL,hj] at hq;exact hq.symm
 rw [e,e2];refine ⟨by simp [zHB],fun t p z hp hz=>?_⟩;have ht:t<m:=by simpa [colL] using (List.getElem?_eq_some_iff.1 hp).1
 have h5:(t+1)*c≤m*c:=Nat.mul_le_mul_right c ht;have h6:(t+1)*c=t*c+c:=by rw [Nat.add_mul,Nat.one_mul]
 have h7:t*c+j<ys.length:=by omega
 have h8:t*c+j<ps.length:=by rw [h.1];exact h7
 have e3:p=ps[t*c+j]:=by simp [colL,ht,h8] at hp;exact hp.symm
 have e4:z=ys[t*c+j]:=by simp [colL,ht,h7] at hz;exact hz.symm
 rw [e3,e4];exact h.2 _ _ _ (List.getElem?_eq_getElem h8) (List.getElem?_eq_getElem h7)
theorem zFG {r m:Nat} {xs:List Int} (hl:xs.length=r*m):∀row∈rowsL r m xs,row.length=m:=by
 intro row hrow;simp only [rowsL,List.mem_map,List.mem_range] at hrow;obtain ⟨i,hi,rfl⟩:=hrow;have h5:(i+1)*m≤r*m:=Nat.mul_le_mul_right m hi;have h6:(i+1)*m=i*m+m:=by rw [Nat.add_mul,Nat.one_mul]
 simp
 omega
theorem zeE {m c:Nat} {ys:List Int}:∀col∈colsL m c ys 0,col.length=m:=by
 intro col hcol;simp only [colsL,List.mem_map,List.mem_range] at hcol;obtain ⟨j,hj,rfl⟩:=hcol;exact zHB
theorem prodL_length {r m c:Nat} {xs ys:List Int}:(zTE r m c xs ys).length=r*c:=by
 have h:∀L:List (List Int),(∀x∈L,x.length=c)→L.flatten.length=L.length*c:=by
  intro L
  induction L with
  | nil=>simp
  | cons a t ih =>
   intro hL;rw [List.flatten_cons,List.length_append,ih (fun x hx=>hL x (by simp [hx])),hL a (by simp),List.length_cons,Nat.add_mul,Nat.one_mul,Nat.add_comm]
 unfold zTE;rw [h _ (by intro x hx;simp only [List.mem_map] at hx;obtain ⟨row,_,rfl⟩:=hx;simp [colsL])];simp [rowsL]
theorem zzG {w:World} {pss:List (List (Value×Value))} {zss:List (List Int)} {k m:Nat} (h:Zcss w pss zss k) (hl:∀z∈zss,z.length=m):zoH m pss:=by
 intro ps hps;obtain ⟨j,hj,e⟩:=List.getElem_of_mem hps;have h1:pss[j]?=some ps:=by rw [List.getElem?_eq_getElem hj,e]
 have hz:=h.2 j ps h1;have hj2:j<zss.length:=by rw [←h.1];exact hj
 refine ⟨?_,hz.zis.isI⟩;rw [hz.1];have e2:zss.getD j []=zss[j]:=by simp [hj2]
 rw [e2];exact hl _ (List.getElem_mem hj2)
abbrev matO (r c:Nat) (at_:Value):Obj:=.cells #[.int .i64 (r:Int),.int .i64 (c:Int),at_] 24
theorem product_any {w:World} {va vb:Value} {r m c:Nat} {xs ys:List Int} {k l:Nat} (ha:Mx w va r m xs k) (hb:Mx w vb m c ys l) (hk:k+l+m<35184372088832) :
  Calls Tryz.prog 23 #[va,vb] w (zhG w r c (zTE r m c xs ys) (k+l+m)):=by
 obtain ⟨ata,pa,rfl,pa1,pa2,pa3,hr,hm⟩:=ha;obtain ⟨atb,pb,rfl,pb1,pb2,pb3,-,hc⟩:=hb;obtain ⟨W0,hW⟩:∃W0,((w.alloc (matO r m ata)).alloc (matO m c atb)).alloc mbox=W0:=⟨_,rfl⟩
 obtain ⟨b0,sz0⟩:=znB w (matO r m ata) (matO m c atb) mbox;rw [hW] at b0 sz0;have PA:Hid (Cel W0 w.heap.size 24 (matc r m ata)):=by
  unfold Hid;rw [←hW];exact (((Cel.new w 24 (matc r m ata)).step ((Below.refl _ _).alloc (Nat.le_refl _) _)).step ((Below.refl _ _).alloc (Nat.le_refl _) _))
 have PB:Hid (Cel W0 (w.heap.size+1) 24 (matc m c atb)):=by
  unfold Hid;rw [←hW];have:=((Cel.new (w.alloc (matO r m ata)) 24 (matc m c atb)).step ((Below.refl _ _).alloc (Nat.le_refl _) mbox))
  simpa using this
 have PR:Hid (Cel W0 (w.heap.size+1+1) 24 [.int .i64 0,.int .i64 0,.slice none 0 0]):=by
  unfold Hid;rw [←hW];have:=Cel.new ((w.alloc (matO r m ata)).alloc (matO m c atb)) 24 [.int .i64 0,.int .i64 0,.slice none 0 0]
  simpa using this
 have HCO:=hid (zgC (pb1.now b0) (by rw [pb2.1,pb3]) pb2.isI hm hc);have A1:=hid (pa1.now b0);have A2:=hid (pa2.now b0);have B2:=hid (pb2.now b0);have HLA:=hid pa3;have HLB:=hid pb3;have G0:=hid b0;have SZ:=hid sz0;have HK:=hid hk;have y0:=PB.out.at (i:=0) rfl;have y1:=PB.out.at (i:=1) rfl;have y2:=PB.out.at (i:=2) rfl;rw [←hW] at y0 y1 y2;have EW:=hid hW;obtain ⟨aa,ca,rfl,-,-,-,-⟩:=pa1.form;obtain ⟨ab,cb,rfl,-,-,-,-⟩:=pb1.form;clear pa1 pa2 pb1 pb2 pa3 pb3 b0 sz0 hW hk;go_enter Tryz.func23,Tryz.ntmps23;go_wp2_with fail;rw [EW.out];refine HCO.out.mono ?_;rintro e w1 ⟨u,rfl,q1,b⟩;obtain ⟨au,cu,rfl,-,-,-⟩:=q1.form;obtain ⟨V1,hV⟩:∃V1,w1.alloc (.cells #[.slice au (colsL m c pb zqA).length cu] 48)=V1:=⟨_,rfl⟩
 obtain ⟨b1,sz1⟩:=alo1 w1 (.cells #[.slice au (colsL m c pb zqA).length cu] 48);rw [hV] at b1 sz1;have B01:=hid (zBA b b1);have hcol:V1.cell? ⟨w1.heap.size,0,none⟩=some (.slice au (colsL m c pb zqA).length cu):=by rw [←hV];exact (Cel.new w1 48 [.slice au (colsL m c pb zqA).length cu]).at (i:=0) rfl
 have CO:=hid hcol;have Q1:=hid (q1.now b1);have HRO:=hid (rowsOf_any (w:=V1) (A1.out.now B01.out) (by rw [A2.out.1,HLA.out]) hr hm);have x0:=(PA.out.step B01.out).at (i:=0) rfl;have x1:=(PA.out.step B01.out).at (i:=1) rfl;have x2:=(PA.out.step B01.out).at (i:=2) rfl;rw [←hV] at x0 x1 x2;have EV:=hid hV;have HCL:Hid ((colsL m c pb zqA).length=c):=by unfold Hid;simp [colsL]
 clear HCO q1 b b1 sz1 hV y0 y1 y2 hcol EW;go_wp2_with fail;rw [EV.out];refine HRO.out.mono ?_;rintro e w2 ⟨u2,rfl,q2,b⟩;have B02:=hid (zBA B01.out b);have HER:=hid (eachRows_any (B':=W0.heap.size) q2 ((zmE (r:=r) (m:=m) A2.out).now B02.out) (cnow b CO.out) (Q1.out.now b) ((znE (m:=m) (c:=c) B2.out HLB.out).now B02.out) zeE (zFG HLA.out) HK.out);obtain ⟨a2,c2,rfl,-,-,-⟩:=q2.form;have HB2:=hid b;clear HRO q2 b x0 x1 x2 EV;go_wp2_with fail;refine HER.out.mono ?_;rintro e w3 ⟨u3,p3,rfl,q3,z3,b⟩;have B03:=hid (zBA B02.out b);have Z3:=hid z3;have HP3:Hid (p3.length=r):=by unfold Hid;rw [z3.1];simp [rowsL]
 have hsm:zoH c p3:=zzG z3 (by intro z hz;simp only [List.mem_map] at hz;obtain ⟨row,_,rfl⟩:=hz;simp [colsL]);have hrc:r*c≤64*64:=Nat.mul_le_mul hr hc;have HOF:=hid (zoC (C:=c) q3 hsm (by rw [HP3.out];omega) (by omega) HP3.out);obtain ⟨a3,c3,rfl,-,-,-⟩:=q3.form;have y1:=(PB.out.step B03.out).at (i:=1) rfl;clear HER q3 z3 b hsm hrc;go_wp2_with fail;refine HOF.out.mono ?_;rintro e w4 ⟨at4,rfl,q4,b⟩;have B04:=hid (zBA B03.out b);have PR4:=hid (PR.out.step B04.out);obtain ⟨a4,c4,rfl,-,-,-,-⟩:=q4.form;have HGB:Hid (w.heap.size+1+1<w3.heap.size):=by unfold Hid;have h1:=SZ.out;have h2:=B03.out.size;omega
 have FIN:Hid (zhG w r c (zTE r m c xs ys) (k+l+m) (.returned (.agg #[.int .i64 (r:Int),.int .i64 (c:Int),.slice a4 p3.flatten.length c4])) (put3 w4 (w.heap.size+1+1) (.int .i64 (r:Int)) (.int .i64 (c:Int)) (.slice a4 p3.flatten.length c4))) :=
  ⟨_,rfl,⟨_,p3.flatten,rfl,(q4.put3 HGB.out _ _ _).mono (Nat.zero_le _),((Zcss.flat Z3.out).now b).wk (PR4.out.wk3 _ _ _),prodL_length,hr,hc⟩,zSA (zBA G0.out B04.out) (by omega) _ _ _⟩
 have PF:=hid (PR4.out.put3 (.int .i64 (r:Int)) (.int .i64 (c:Int)) (.slice a4 p3.flatten.length c4));have r0:=PR4.out.at (i:=0) rfl;have r1:=PR4.out.at (i:=1) rfl;have r2:=PR4.out.at (i:=2) rfl;have f0:=PR4.out.fz 0;have f1:=PR4.out.fz 1;have f2:=PR4.out.fz 2;obtain ⟨L4,hL4⟩:∃L4,p3.flatten.length=L4:=⟨_,rfl⟩
 rw [hL4] at FIN PF ⊢;clear HOF q4 b hL4 y1;go_wp2;exact bodyPost_ret (zhF Tryz.results23 PF.out _ (by rfl)) rfl FIN.out
theorem zlD {w:World} {r c:Nat} (hr:r≤64) (hc:c≤64):Calls Tryz.prog 35 #[.int .i64 (r:Int),.int .i64 (c:Int)] w fun e w'=>e=.returned (.bool true)∧w'=w:=by
 have h1:(0:Int)≤(r:Int):=by omega
 have h2:(0:Int)≤(c:Int):=by omega
 have h3:(r:Int)≤64:=by omega
 have h4:(c:Int)≤64:=by omega
 have h5:max (r:Int) (c:Int)≤64:=by omega
 have h6:0≤min (r:Int) (c:Int):=by omega
 go_enter Tryz.func35,Tryz.ntmps35;go_wp2;go_ret;exact ⟨rfl,rfl⟩
theorem zIB {w:World} {v:Value} {r c:Nat} {zs:List Int} {k:Nat} (h:Mx w v r c zs k):Calls Tryz.prog 19 #[v] w fun e w'=>e=.returned (.int .i64 0)∧Below w.heap.size w w':=by
 obtain ⟨a,cap,rfl,hr,hc⟩:=h.form;have hm0:=zXC (i:=r) (c:=c) hr hc;obtain ⟨n,hn⟩:∃n,r*c=n:=⟨_,rfl⟩
 rw [hn] at hm0;have hm2:=hm0;rw [IntKind.wrap_i64] at hm2;rw [hn];obtain ⟨W0,hW⟩:∃W0,w.alloc (matO r c (.slice a n cap))=W0:=⟨_,rfl⟩
 obtain ⟨b0,sz0⟩:=alo1 w (matO r c (.slice a n cap));rw [hW] at b0 sz0;have P1:Hid (Cel W0 w.heap.size 24 (matc r c (.slice a n cap))):=by unfold Hid;rw [←hW];exact Cel.new w _ _
 have x0:=P1.out.at (i:=0) rfl;have x1:=P1.out.at (i:=1) rfl;have x2:=P1.out.at (i:=2) rfl;rw [←hW] at x0 x1 x2;have HS:=hid (zlD (w:=W0) hr hc);have G0:=hid b0;have EW:=hid hW;have q0:((n:Int) != (n:Int))=false:=by simp
 clear b0 sz0 hW h hn P1;go_enter Tryz.func19,Tryz.ntmps19;go_wp2_with fail;rw [EW.out];refine HS.out.mono ?_;rintro e w1 ⟨rfl,rfl⟩;rw [EW.out] at x0 x1 x2;go_wp2;go_ret;exact ⟨rfl,G0.out⟩
def Ms (w:World) (v:Value) (n:Nat):Prop:=∃a cap,v=.slice a n cap∧n≤1048576∧(n=0∨∃b off,a=some ⟨b,off,none⟩∧∀j,j<n→∃(r c l cap':Nat) (a':Option Addr),w.cell? ⟨b,off+j*3,none⟩=some (.int .i64 (r:Int))∧w.cell? ⟨b,off+j*3+1,none⟩=some (.int .i64 (c:Int))∧w.cell? ⟨b,off+j*3+2,none⟩=some (.slice a' l cap')∧∃zs k,Mx w (matv r c (.slice a' l cap')) r c zs k)
def ChkH (w:World) (n gk:Nat) (s:Value) (wx:World):Prop:=∃i:Nat,s=.int .i64 (i:Int)∧i≤n∧gk=n-i∧Below w.heap.size w wx
theorem checkAll_yes {w:World} {v:Value} {n:Nat} (h:Ms w v n):Calls Tryz.prog 22 #[v] w fun e w'=>e=.returned (.int .i64 0)∧Below w.heap.size w w':=by
 obtain ⟨a0,c0,rfl,hn,hel⟩:=h;have EL:=hid hel;have H0:Hid (ChkH w n n (.int .i64 0) w):=⟨0,rfl,Nat.zero_le _,by omega,Below.refl _ _⟩
 clear hel;go_enter Tryz.func22,Tryz.ntmps22;go_wp2_with fail
 go_loopg [8] n (fun gk s8 wx=>ChkH w n gk s8 wx)
 case atStart=>exact H0.out
 case round =>
  clear H0;obtain ⟨i,rfl,hin,hg,hG⟩:=hrel;have G:=hid hG;have HG:=hid hg;clear hG hg
  by_cases hlt:i<n
  ·have hlt':(i:Int)<(n:Int):=by omega
   obtain ⟨b1,o1,rfl,hel⟩:=EL.out.resolve_left (by omega);obtain ⟨r,c,l,cap',a',e0,e1,e2,zs,k,hm⟩:=hel i hlt;have k0:=cnow G.out e0;have k1:=cnow G.out e1;have k2:=cnow G.out e2;obtain ⟨V1,hV⟩:∃V1,wr.alloc (matO r c (.slice a' l cap'))=V1:=⟨_,rfl⟩
   obtain ⟨b1',sz1⟩:=alo1 wr (matO r c (.slice a' l cap'));rw [hV] at b1' sz1;have P4:Hid (Cel V1 wr.heap.size 24 (matc r c (.slice a' l cap'))):=by unfold Hid;rw [←hV];exact Cel.new wr _ _
   have GV:=hid (zBA G.out b1');have HS:=hid (zIB (hm.now GV.out));have x0:=P4.out.at (i:=0) rfl;have x1:=P4.out.at (i:=1) rfl;have x2:=P4.out.at (i:=2) rfl;rw [←hV] at x0 x1 x2;have EV:=hid hV;have hw:=zNA (i:=i) (by omega);clear e0 e1 e2 hel hm b1' sz1 hV P4 G;go_wp2_with fail;rw [EV.out];refine HS.out.mono ?_;rintro e w1 ⟨rfl,b⟩;have HN1:Hid (ChkH w n (n-(i+1)) (.int .i64 ((i+1:Nat):Int)) w1):=⟨i+1,rfl,by omega,rfl,zBA GV.out b⟩
   have HMM:Hid (n-(i+1)<gk):=by unfold Hid;rw [HG.out];omega
   clear HS GV b EV HG x0 x1 x2 k0 k1 k2;go_wp2_with fail;go_roundg (n-(i+1))
   case rel=>exact HN1.out
   case measure=>exact HMM.out
  ·have hlt':¬(i:Int)<(n:Int):=by omega
   clear HG;go_wp2;go_ret;exact ⟨rfl,G.out⟩
abbrev twoO (r m m' c:Nat) (x y:Value):Obj:=.cells #[.int .i64 (r:Int),.int .i64 (m:Int),x,.int .i64 (m':Int),.int .i64 (c:Int),y] 24
theorem ms_two {w W:World} {r m m' c la lb ca cb ka kb:Nat} {aa ab:Option Addr} {xs ys:List Int} (hW:w.alloc (twoO r m m' c (.slice aa la ca) (.slice ab lb cb))=W) (ha:Mx w (matv r m (.slice aa la ca)) r m xs ka) (hb:Mx w (matv m' c (.slice ab lb cb)) m' c ys kb):Ms W (.slice (some ⟨w.heap.size,0,none⟩) 2 2) 2:=by
 have b0:=(alo1 w (twoO r m m' c (.slice aa la ca) (.slice ab lb cb))).1;rw [hW] at b0;have P:Cel W w.heap.size 24 [.int .i64 (r:Int),.int .i64 (m:Int),.slice aa la ca,.int .i64 (m':Int),.int .i64 (c:Int),.slice ab lb cb]:=by rw [←hW];exact Cel.new w _ _
 refine ⟨_,_,rfl,by omega,.inr ⟨w.heap.size,0,rfl,fun j hj=>?_⟩⟩
 match j,hj with
 | 0,_=>exact ⟨r,m,la,ca,aa,P.at rfl,P.at rfl,P.at rfl,xs,ka,ha.now b0⟩
 | 1,_=>exact ⟨m',c,lb,cb,ab,P.at rfl,P.at rfl,P.at rfl,ys,kb,hb.now b0⟩
def zUB (w:World) (r c:Nat) (zs:List Int) (k:Nat) (e:Ending) (w':World):Prop:=∃v,e=.returned (.tuple #[v,.int .i64 0])∧Mc w' v r c zs k∧Below w.heap.size w w'
abbrev zxH:Value:=.agg #[.int .i64 0,.int .i64 0,.slice none 0 0]
def zwC (w:World) (E:Int) (e:Ending) (w':World):Prop:=e=.returned (.tuple #[zxH,.int .i64 E])∧Below w.heap.size w w'
theorem three_boxes {w W0:World} {o1 o2:List Value} (hW:((w.alloc (.cells o1.toArray 24)).alloc (.cells o2.toArray 24)).alloc mbox=W0) :
  Cel W0 w.heap.size 24 o1∧Cel W0 (w.heap.size+1) 24 o2∧Cel W0 (w.heap.size+1+1) 24 [.int .i64 0,.int .i64 0,.slice none 0 0]:=by
 refine ⟨?_,?_,?_⟩
 ·rw [←hW]
  exact (((Cel.new w 24 o1).step ((Below.refl _ _).alloc (Nat.le_refl _) _)).step ((Below.refl _ _).alloc (Nat.le_refl _) _))
 ·rw [←hW]
  have:=((Cel.new (w.alloc (.cells o1.toArray 24)) 24 o2).step ((Below.refl _ _).alloc (Nat.le_refl _) mbox))
  simpa using this
 ·rw [←hW]
  have:=Cel.new ((w.alloc (.cells o1.toArray 24)).alloc (.cells o2.toArray 24)) 24 [.int .i64 0,.int .i64 0,.slice none 0 0]
  simpa using this
theorem Mc.wk {w:World} {v:Value} {r c:Nat} {zs:List Int} {k b:Nat} (h:Mc w v r c zs k) {x0 x1:Int} {a:Option Addr} {l n:Nat} (d:Cel w b 24 [.int .i64 x0,.int .i64 x1,.slice a l n]) (y0 y1 y2:Value):Mc (put3 w b y0 y1 y2) v r c zs k:=by
 obtain ⟨at_,ps,h1,h2,h3,h4⟩:=h;refine ⟨at_,ps,h1,?_,h3.wk (d.wk3 _ _ _),h4⟩;obtain ⟨a',c',e1,e2,e3,e4,e5⟩:=h2;refine ⟨a',c',e1,e2,e3,e4,?_⟩;rcases e5 with e5 | ⟨b',off,e6,e7,e8,e9⟩
 ·exact .inl e5
 ·refine .inr ⟨b',off,e6,e7,by simpa using e8,fun j p hp=>?_⟩
  have hne:b≠b':=by
   intro e;subst e;have hz:zs[j]?=some (zs[j]'(by rw [←h3.1];exact (List.getElem?_eq_some_iff.1 hp).1)):=List.getElem?_eq_getElem _;obtain ⟨n1,a1,l1,c1,q⟩:=(h3.2 j p _ hp hz).zi.isI;have q1:=(e9 j p hp).1;rw [show p.1=.bool n1 by rw [Prod.mk.injEq] at q;exact q.1] at q1;have q2:w.heap[b]?=some (.cells #[.int .i64 x0,.int .i64 x1,.slice a l n] 24 (0,0)):=d;simp only [World.cell?,q2] at q1;simp at q1;generalize off+j*2=o at q1
   match o,q1 with
   | 0,q1=>simp at q1
   | 1,q1=>simp at q1
   | 2,q1=>simp at q1
   | o+3,q1=>simp at q1
  have e:∀o,(put3 w b y0 y1 y2).cell? ⟨b',o,none⟩=w.cell? ⟨b',o,none⟩:=fun o=>by
   rw [World.cell?_setCell_other _ _ _ _ (by simp <;> omega),World.cell?_setCell_other _ _ _ _ (by simp <;> omega),World.cell?_setCell_other _ _ _ _ (by simp <;> omega)]
  rw [e,e];exact e9 j p hp
theorem zLH {w:World} {va vb:Value} {r m c:Nat} {xs ys:List Int} {k l:Nat} (ha:Mx w va r m xs k) (hb:Mx w vb m c ys l) (hk:k+l+m<35184372088832) :
  Calls Tryz.prog 10 #[va,vb] w (zUB w r c (zTE r m c xs ys) (k+l+m)):=by
 obtain ⟨aa,ca,rfl,hr,hm⟩:=ha.form;obtain ⟨ab,cb,rfl,-,hc⟩:=hb.form;generalize r*m=la at *;generalize m*c=lb at *;obtain ⟨W0,hW⟩:∃W0,((w.alloc (matO r m (.slice aa la ca))).alloc (matO m c (.slice ab lb cb))).alloc mbox=W0:=⟨_,rfl⟩
 obtain ⟨b0,sz0⟩:=znB w (matO r m (.slice aa la ca)) (matO m c (.slice ab lb cb)) mbox;rw [hW] at b0 sz0;obtain ⟨pa,pb,pr⟩:=three_boxes (o1:=matc r m (.slice aa la ca)) (o2:=matc m c (.slice ab lb cb)) hW;obtain ⟨V1,hV⟩:∃V1,W0.alloc (twoO r m m c (.slice aa la ca) (.slice ab lb cb))=V1:=⟨_,rfl⟩
 obtain ⟨b1,sz1⟩:=alo1 W0 (twoO r m m c (.slice aa la ca) (.slice ab lb cb));rw [hV] at b1 sz1;have HCK:=hid (checkAll_yes (ms_two hV (ha.now b0) (hb.now b0)));have A1:=hid ((ha.now b0).now b1);have B1:=hid ((hb.now b0).now b1);have x0:=pa.at (i:=0) rfl;have x1:=pa.at (i:=1) rfl;have x2:=pa.at (i:=2) rfl;have y0:=pb.at (i:=0) rfl;have y1:=pb.at (i:=1) rfl;have y2:=pb.at (i:=2) rfl;rw [←hW] at x0 x1 x2 y0 y1 y2;have PA:=hid (pa.step b1);have PB:=hid (pb.step b1);have PR:=hid (pr.step b1);have G1:=hid (zBA b0 b1);have SZ:=hid sz0;have HK:=hid hk;have EQ:Hid ((((w.alloc (matO r m (.slice aa la ca))).alloc (matO m c (.slice ab lb cb))).alloc mbox).alloc (twoO r m m c (.slice aa la ca) (.slice ab lb cb))=V1):=by unfold Hid;rw [hW,hV]
 have ES:Hid ((((w.alloc (matO r m (.slice aa la ca))).alloc (matO m c (.slice ab lb cb))).alloc mbox).heap.size=W0.heap.size):=by unfold Hid;rw [hW]
 have q0:((m:Int) != (m:Int))=false:=by simp
 have SW:Hid (W0.heap.size=w.heap.size+1+1+1):=sz0;rw [SW.out] at HCK;clear ha hb hk b0 sz0 hW pa pb pr b1 sz1 hV;go_enter Tryz.func10,Tryz.ntmps10;go_wp2_with fail;rw [EQ.out];refine HCK.out.mono ?_;rintro e w1 ⟨rfl,b⟩;have HPR:=hid (product_any (A1.out.now b) (B1.out.now b) HK.out);have PR1:=hid (PR.out.step b);have G2:=hid (zBA G1.out b);have z0:=(PA.out.step b).at (i:=0) rfl;have z1:=(PA.out.step b).at (i:=1) rfl;have z2:=(PA.out.step b).at (i:=2) rfl;have t0:=(PB.out.step b).at (i:=0) rfl;have t1:=(PB.out.step b).at (i:=1) rfl;have t2:=(PB.out.step b).at (i:=2) rfl;clear HCK b x0 x1 x2 y0 y1 y2 EQ ES PA PB PR G1;go_wp2_with fail;refine HPR.out.mono ?_;rintro e w2 ⟨v,rfl,hmc,b⟩;obtain ⟨av,cv,rfl,-,-⟩:=hmc.mx.form;have PR2:=hid (PR1.out.step b);have G3:=hid (zBA G2.out b);generalize r*c=lv at *;have FIN:Hid (zUB w r c (zTE r m c xs ys) (k+l+m) (.returned (.tuple #[.agg #[.int .i64 (r:Int),.int .i64 (c:Int),.slice av lv cv],.int .i64 0])) (put3 w2 (w.heap.size+1+1) (.int .i64 (r:Int)) (.int .i64 (c:Int)) (.slice av lv cv))) :=
  ⟨_,rfl,hmc.wk PR2.out _ _ _,zSA G3.out (by omega) _ _ _⟩
 have PF:=hid (PR2.out.put3 (.int .i64 (r:Int)) (.int .i64 (c:Int)) (.slice av lv cv));have r0:=PR2.out.at (i:=0) rfl;have r1:=PR2.out.at (i:=1) rfl;have r2:=PR2.out.at (i:=2) rfl;have f0:=PR2.out.fz 0;have f1:=PR2.out.fz 1;have f2:=PR2.out.fz 2;clear HPR hmc b z0 z1 z2 t0 t1 t2;go_wp2;exact bodyPost_ret (zIC Tryz.results10 PF.out _ (by rfl) (by rfl)) rfl FIN.out
end Go.Proofs.YtjnokjgbeploaaaGreat
