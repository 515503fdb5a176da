import Derived.Test.YtjnokjgbeploaaaGreatQSr13
import Derived.Test.YtjnokjgbeploaaaGreatQUnit9ToBw8
import Derived.Test.YtjnokjgbeploaaaGreatQFil9ToDot9
import Derived.Deep.CutRange
set_option maxRecDepth 100000
set_option maxHeartbeats 6400000
set_option linter.unusedVariables false
set_option linter.unusedSimpArgs false
namespace Go.Proofs.YtjnokjgbeploaaaGreat
open Go.RowKit
def Bx2 (W wx:World) (s1 s2 x y x' y':Value):Prop:=∃bp bt,s1=.pointer (some ⟨bp,0,none⟩)∧s2=.pointer (some ⟨bt,0,none⟩)∧W.heap.size≤bp∧W.heap.size≤bt∧bp≠bt∧Duo wx bp x y∧Duo wx bt x' y'∧Below W.heap.size W wx
def MetX (W wx:World) (s1:Value) (z:Int) (k:Nat):Prop :=
 ∃bk n,∃xr:List Int,∃a c,s1=.pointer (some ⟨bk,0,none⟩)∧Below W.heap.size W wx∧W.heap.size≤bk∧Duo wx bk (.bool n) (.slice a xr.length c)∧Zm 0 wx (.agg #[.bool n,.slice a xr.length c]) z k
theorem Duo.ty13 {w:World} {b:Nat} {x y:Value} (d:Duo w b x y) (u u':Value):Ty 39 w ((w.setCell ⟨b,0,none⟩ u).setCell ⟨b,1,none⟩ u') :=
 (Ty.set (L:=[x,y]) d).trans (Ty.set (L:=[u,y]) (by have:=Duo.set0 d u;exact this))
theorem zAF {W w2:World} {bk:Nat} {n:Bool} {t:List Int} {a:Option Addr} {c k:Nat} {z:Int} (D:Duo w2 bk (.bool false) (.slice none 0 0)) (M:Zm 0 w2 (.agg #[.bool n,.slice a t.length c]) z k) (HP:Below W.heap.size W w2) (h1:W.heap.size≤bk) :
  MetX W ((w2.setCell ⟨bk,0,none⟩ (.bool n)).setCell ⟨bk,1,none⟩ (.slice a t.length c)) (.pointer (some ⟨bk,0,none⟩)) z k :=
 ⟨bk,n,t,a,c,rfl,bset (bset HP h1) h1,h1,D.set _ _,M.ty (D.ty13 _ _) (by decide)⟩
def RO13 (A:Nat→Nat→Int) (w:World) (bb g n:Nat) (rs cs:List Nat) (r kw Kn gk:Nat) (s:Value) (wx:World):Prop :=
 ∃(kk:Nat) (ps:List (Value×Value)) (nb:Bool) (ab:Option Addr) (lb cb:Nat),s=.int .i64 (kk:Int)∧kk≤Kn∧gk=Kn-kk∧Duo wx bb (.bool nb) (.slice ab lb cb)∧Zm 0 wx (.agg #[.bool nb,.slice ab lb cb]) (dd A (gd rs) (gd cs) kk) kw∧Arr wx g ps∧Zms wx ps ((List.range n).map fun j=>mi A (gd rs) (gd cs) kk r j) kw∧zLA (· = g) w wx
def mx13 (F0 F1:Nat→Int) (j t:Nat):Int:=if t<j then F1 t else F0 t
def RI13 (w:World) (g n:Nat) (F0 F1:Nat→Int) (kw gk:Nat) (s:Value) (wx:World):Prop :=
 ∃(j:Nat) (ps:List (Value×Value)),s=.int .i64 (j:Int)∧j≤n∧gk=n-j∧Arr wx g ps∧Zms wx ps ((List.range n).map (mx13 F0 F1 j)) kw∧zLA (· = g) w wx
theorem mx13_zero (F0 F1:Nat→Int) (n:Nat):(List.range n).map (mx13 F0 F1 0)=(List.range n).map F0:=List.map_congr_left fun t _=>if_neg (by omega)
theorem mx13_all (F0 F1:Nat→Int) (n:Nat):(List.range n).map (mx13 F0 F1 n)=(List.range n).map F1:=List.map_congr_left fun t ht=>if_pos (by simpa using ht)
theorem mx13_step (F0 F1:Nat→Int) {n j:Nat} (hj:j<n):((List.range n).map (mx13 F0 F1 j)).set j (F1 j)=(List.range n).map (mx13 F0 F1 (j+1)):=by
 apply List.ext_getElem?
 intro t
 by_cases q:t<n
 ·by_cases e:t=j
  ·subst e
   rw [List.getElem?_set_self (by simpa using hj),List.getElem?_map,List.getElem?_range q];simp [mx13]
  ·rw [List.getElem?_set_ne (by omega),List.getElem?_map,List.getElem?_map,List.getElem?_range q]
   simp only [Option.map_some,Option.some.injEq,mx13]
   by_cases h:t<j
   ·rw [if_pos h,if_pos (by omega)]
   ·rw [if_neg h,if_neg (by omega)]
 ·rw [List.getElem?_eq_none (by simp;omega),List.getElem?_eq_none (by simp;omega)]
theorem zqB {F:Nat→Int} {n j:Nat} (hj:j<n):((List.range n).map F).getD j 0=F j:=by simp [hj]
def Elim (A:Nat→Nat→Int) (w:World) (g n:Nat) (rs cs:List Nat) (r kw:Nat) (e:Ending) (w':World):Prop :=
 e=.returned (.tuple #[])∧∃ps,Arr w' g ps∧Zms w' ps ((List.range n).map fun j=>mi A (gd rs) (gd cs) rs.length r j) kw∧zLA (· = g) w w'
def Fits (A:Nat→Nat→Int) (rs cs:List Nat) (kw:Nat):Prop:=∀k r j,k≤rs.length→((mi A (gd rs) (gd cs) k r j).natAbs:Int)<pw kw
theorem eliminate_any {A:Nat→Nat→Int} {B Bs g n i r kw:Nat} {rs cs ks:List Nat} {odd:Bool} {ps:List (Value×Value)} {w:World} (hS:Srs A B w Bs n rs cs odd ks kw) (hZ:Stz A n i rs cs odd) (hA:Arr w g ps) (hz:Zms w ps ((List.range n).map (A r)) kw)
  (hg:∀x∈ks,x≠g) (hF:Fits A rs cs kw) (h1:1≤kw) (hkw:kw≤274877906944) (hn:n≤64) (hr:rs.length≤64) :
  Calls Tryz.prog 48 #[.pointer (some ⟨Bs,0,none⟩),.slice (some ⟨g,0,none⟩) n n] w (Elim A w g n rs cs r kw):=by
 obtain ⟨rv,cv,lv,s1,s2,s3,s4,s5⟩:=hS;obtain ⟨ca,ccap,rfl,hcc,hca⟩:=s3.form;obtain ⟨la,lcap,rfl,hlc,hla⟩:=s4.form;have hlen:=hZ.len;rw [zEB] at hlc hla;obtain ⟨Kn,hK⟩:∃Kn,rs.length=Kn:=⟨_,rfl⟩
 have hks:ks.length=Kn:=by rw [s4.2.2.1,zEB,hK]
 have ell:(lnz A n rs cs).length=Kn:=by rw [zEB,hK]
 have ecl:cs.length=Kn:=by omega
 have KS:Hid (∀wx,zLA (· = g) w wx→Cel wx Bs 50 [rv,.slice ca Kn ccap,.slice la Kn lcap,.bool odd]∧Ivs B wx (.slice ca Kn ccap) cs∧ShtM B wx (.slice la Kn lcap) n ks (lnz A n rs cs) kw):=fun wx ht=>by
  have:=s1.ty13 (ht.ty13 hA) (by decide);have a2:=s3.touch ht hA;have a3:=s4.touch ht hA hg;rw [ell,ecl] at this;rw [ecl] at a2;rw [ell] at a3;exact ⟨this,a2,a3⟩
 have KG:Hid (∀x,x∈ks→x≠g):=hg;have HNZ:Hid (∀k,k≤Kn→dd A (gd rs) (gd cs) k≠0):=fun k hk=>hZ.nz k (by omega)
 have HCL:Hid (∀k,k<Kn→cs.getD k 0<n):=fun k hk=>hZ.cl _ (by simp [show k<cs.length by omega])
 have HF:Hid (∀k r j,k≤Kn→((mi A (gd rs) (gd cs) k r j).natAbs:Int)<pw kw):=fun k r j hk=>hF k r j (by omega)
 have HKW:=hid hkw;have HCA:Hid (0<Kn→∃g,ca=some ⟨g,0,none⟩):=fun q=>hca (by omega)
 have HLA:Hid (0<Kn→∃L,la=some ⟨L,0,none⟩):=fun q=>by obtain ⟨L,e,_⟩:=hla (by omega);exact ⟨L,e⟩
 have HLN:Hid (∀k,k<Kn→zLB (lnz A n rs cs) k=(List.range n).map fun j=>mi A (gd rs) (gd cs) k (gd rs k) j):=fun k hk=>zUI (by omega)
 have HKL:=hid hks;have HA0:=hid hA;have HZ0:=hid hz;have H1:=hid h1;have hKc:Kn≤ccap:=by omega
 have hKl:Kn≤lcap:=by omega
 have hK64:Kn≤64:=by omega
 have hgw:g<w.heap.size:=hA.1.blk;have HGW:=hid hgw;have HOF:=hid (of_z (n:=1) (by decide) (by decide) w);have FIN:Hid (∀wx,(∃ps,Arr wx g ps∧Zms wx ps ((List.range n).map fun j=>mi A (gd rs) (gd cs) Kn r j) kw∧zLA (· = g) w wx)→Elim A w g n rs cs r kw (.returned (.tuple #[])) wx):=fun wx h=>⟨rfl,by rw [hK];exact h⟩
 clear hZ hF hkw hca hla hA hz hg s1 s2 s3 s4 s5 hks ell ecl hcc hlc hlen h1 hK hr;go_enter Tryz.func48,Tryz.ntmps48;go_wp2_with fail;refine HOF.out.mono ?_;rintro e w1 ⟨r0,rfl,m0,b0⟩;obtain ⟨nb,xb,ab,cb,rfl⟩:=m0.parts;obtain ⟨W0,hW⟩:∃W0,w1.alloc (duo (.bool nb) (.slice ab xb.length cb))=W0:=⟨_,rfl⟩
 obtain ⟨b1,sz0⟩:=alo1 w1 (duo (.bool nb) (.slice ab xb.length cb));rw [hW] at b1 sz0;have HBB:Hid (w.heap.size≤w1.heap.size):=b0.size;have T0:Hid (zLA (· = g) w W0):=.ofBelow (zBA b0 b1);have H0:Hid (RO13 A w w1.heap.size g n rs cs r kw Kn Kn (.int .i64 0) W0):=by
  refine ⟨0,ps,nb,ab,xb.length,cb,rfl,Nat.zero_le _,by omega,by rw [←hW];exact Duo.new w1 _ _,?_,HA0.out.step (zBA b0 b1),?_,T0.out⟩
  ·have:dd A (gd rs) (gd cs) 0=1:=rfl
   rw [this];exact ((m0.mono (Nat.zero_le _)).now b1).more H1.out
  ·have:(List.range n).map (fun j=>mi A (gd rs) (gd cs) 0 r j)=(List.range n).map (A r):=List.map_congr_left fun j _=>mi_zero _ _ _ _ _
   rw [this];exact HZ0.out.now (zBA b0 b1)
 have y1:=(KS.out _ T0.out).1.at (i:=1) rfl;rw [←hW] at y1;have EW:=hid hW;obtain ⟨bb,hbb⟩:∃bb,w1.heap.size=bb:=⟨_,rfl⟩
 rw [hbb] at H0 HBB;have EBB:=hid hbb;clear m0 b0 b1 sz0 hW HOF HA0 HZ0 hbb;go_wp2_with fail;rw [EW.out,EBB.out];clear EW EBB y1
 go_loopg [18] Kn (fun gk s18 wx=>RO13 A w bb g n rs cs r kw Kn gk s18 wx)
 case atStart=>exact H0.out
 case round =>
  clear H0 T0;obtain ⟨kk,qs,nb,ab,lb,cb,rfl,hkK,hgk,hd,hzb,har,hzl,htw⟩:=hrel;have DB:=hid hd;have ZB:=hid hzb;have AR:=hid har;have ZL:=hid hzl;have TW:=hid htw;have HG:=hid hgk;clear hd hzb har hzl htw hgk
  by_cases hlt:kk<Kn
  ·have hlt':(kk:Int)<(Kn:Int):=by omega
   obtain ⟨gc,rfl⟩:=HCA.out (by omega);obtain ⟨Lb,rfl⟩:=HLA.out (by omega);obtain ⟨k1,k2,k3⟩:=KS.out _ TW.out;obtain ⟨cc,hcc⟩:∃cc,cs.getD kk 0=cc:=⟨_,rfl⟩
   have c0:=k2.at (i:=kk) (by have:=k2.2;have:=(show (Ivs B wr (.slice (some ⟨gc,0,none⟩) Kn ccap) cs) from k2).form;obtain ⟨_,_,e,_⟩:=this;simp only [Value.slice.injEq] at e;omega);rw [hcc] at c0;have hcn:cc<n:=by rw [←hcc];exact HCL.out kk hlt
   have hcn':(cc:Int)<(n:Int):=by omega
   obtain ⟨gk0,hgk0⟩:∃gk0,ks[kk]?=some gk0:=⟨ks[kk]'(by rw [HKL.out];exact hlt),List.getElem?_eq_getElem _⟩
   have x2:=k1.at (i:=2) rfl;have x3:=k3.line hgk0;obtain ⟨np,ap,lp,cp,p0,p1,zp⟩:=k3.at hgk0 hcn;obtain ⟨nt,at0,lt,ct,t0,t1,-,-,zt⟩:=ZL.out.at AR.out (t:=cc) (by simp;exact hcn);rw [HLN.out kk hlt,zqB hcn] at zp;rw [zqB hcn] at zt;have EP:Hid (mi A (gd rs) (gd cs) kk (gd rs kk) cc=dd A (gd rs) (gd cs) (kk+1)):=by unfold Hid;rw [←hcc];exact zyH A (gd rs) (gd cs) kk
   have ECC:=hid hcc;have ZP:=hid zp;have ZT:=hid zt;have HMO:Hid (Kn-(kk+1)<gk):=by unfold Hid;rw [HG.out];omega
   have GK0:=hid hgk0;have hwk:=zNA (i:=kk) (by omega);clear k1 k2 k3 zp zt hcc hgk0 HG;go_wp2_with fail
   go_cut [7,8] from 19 to 71 (fun s1 s2 wx=>Bx2 wr wx s1 s2 (.bool np) (.slice ap lp cp) (.bool nt) (.slice at0 lt ct))
   case first =>
    have KB:Hid (∀w',Below wr.heap.size wr w'→w'.cell? ⟨Bs,2,none⟩=some (.slice (some ⟨Lb,0,none⟩) Kn lcap)∧w'.cell? ⟨Lb,kk,none⟩=some (.slice (some ⟨gk0,0,none⟩) n n)∧w'.cell? ⟨gk0,cc*2,none⟩=some (.bool np)∧w'.cell? ⟨gk0,cc*2+1,none⟩=some (.slice ap lp cp)∧w'.cell? ⟨g,cc*2,none⟩=some (.bool nt)∧w'.cell? ⟨g,cc*2+1,none⟩=some (.slice at0 lt ct)):=fun w' h=>⟨cnow h x2,cnow h x3,cnow h p0,cnow h p1,cnow h t0,cnow h t1⟩
    refine zDA (fun w'=>w'.cell? ⟨Bs,2,none⟩=some (.slice (some ⟨Lb,0,none⟩) Kn lcap)∧w'.cell? ⟨Lb,kk,none⟩=some (.slice (some ⟨gk0,0,none⟩) n n)∧w'.cell? ⟨gk0,cc*2,none⟩=some (.bool np)∧w'.cell? ⟨gk0,cc*2+1,none⟩=some (.slice ap lp cp)∧w'.cell? ⟨g,cc*2,none⟩=some (.bool nt)∧w'.cell? ⟨g,cc*2+1,none⟩=some (.slice at0 lt ct)) 17 (by kernel_rfl) ?_;obtain ⟨D1,hD⟩:∃D1,wr.drew=D1:=⟨_,rfl⟩
    have GB:Hid (Below wr.heap.size wr D1):=by unfold Hid;rw [←hD];exact (Below.refl _ _).drew
    rw [hD];clear hD;have GZ:Hid (wr.heap.size≤D1.heap.size):=GB.out.size;refine zAA (i:=0) (oi:=⟨some 23,.move (.tmp 0),76, "stairs.go:50",#[],none⟩) (v:=(.pointer (some ⟨Bs,0,none⟩))) rfl (by kernel_rfl) (fun _ _ _ h=>h) (Or.inl ⟨by rfl,?_⟩) (KB.out _ GB.out) ?_
    ·intro w hSw;(try dsimp only at hSw);go_simp
    simp only [Act.put,sIb,sC0,sC1];refine zAA (i:=1) (oi:=⟨some 24,.nilCheck (.tmp 23),0, "stairs.go:50",#[⟨0,.data⟩],none⟩) (v:=(.pointer (some ⟨Bs,0,none⟩))) rfl (by kernel_rfl) (fun _ _ _ h=>h) (Or.inl ⟨by rfl,?_⟩) (KB.out _ GB.out) ?_
    ·intro w hSw;(try dsimp only at hSw);go_simp
    simp only [Act.put,sIb,sC0,sC1];refine zAA (i:=2) (oi:=⟨some 25,.fieldAddr 50 (.tmp 24) 2,0, "stairs.go:50",#[⟨1,.data⟩],none⟩) (v:=(.pointer (some ⟨Bs,2,none⟩))) rfl (by kernel_rfl) (fun _ _ _ h=>h) (Or.inl ⟨by rfl,?_⟩) (KB.out _ GB.out) ?_
    ·intro w hSw;(try dsimp only at hSw);go_simp
    simp only [Act.put,sIb,sC0,sC1];refine zAA (i:=3) (oi:=⟨some 26,.load 48 (.tmp 25),48, "stairs.go:50",#[⟨2,.data⟩],none⟩) (v:=(.slice (some ⟨Lb,0,none⟩) Kn lcap)) rfl (by kernel_rfl) (fun _ _ _ h=>h) (Or.inl ⟨by rfl,?_⟩) (KB.out _ GB.out) ?_
    ·intro w hSw;(try dsimp only at hSw);go_simp
    simp only [Act.put,sIb,sC0,sC1];refine zAA (i:=4) (oi:=⟨some 27,.move (.tmp 5),3, "stairs.go:50",#[],none⟩) (v:=(.int .i64 (kk:Int))) rfl (by kernel_rfl) (fun _ _ _ h=>h) (Or.inl ⟨by rfl,?_⟩) (KB.out _ GB.out) ?_
    ·intro w hSw;(try dsimp only at hSw);go_simp
    simp only [Act.put,sIb,sC0,sC1];refine zAA (i:=5) (oi:=⟨some 28,.indexAddr 48 (.tmp 26) (.tmp 27),0, "stairs.go:50",#[⟨3,.data⟩,⟨4,.data⟩],none⟩) (v:=(.pointer (some ⟨Lb,kk,none⟩))) rfl (by kernel_rfl) (fun _ _ _ h=>h) (Or.inl ⟨by rfl,?_⟩) (KB.out _ GB.out) ?_
    ·intro w hSw;(try dsimp only at hSw);go_simp
    simp only [Act.put,sIb,sC0,sC1];refine zAA (i:=6) (oi:=⟨some 29,.load 22 (.tmp 28),22, "stairs.go:50",#[⟨5,.data⟩],none⟩) (v:=(.slice (some ⟨gk0,0,none⟩) n n)) rfl (by kernel_rfl) (fun _ _ _ h=>h) (Or.inl ⟨by rfl,?_⟩) (KB.out _ GB.out) ?_
    ·intro w hSw;(try dsimp only at hSw);go_simp
    simp only [Act.put,sIb,sC0,sC1];refine zAA (i:=7) (oi:=⟨some 30,.move (.tmp 6),3, "stairs.go:50",#[],none⟩) (v:=(.int .i64 (cc:Int))) rfl (by kernel_rfl) (fun _ _ _ h=>h) (Or.inl ⟨by rfl,?_⟩) (KB.out _ GB.out) ?_
    ·intro w hSw;(try dsimp only at hSw);go_simp
    simp only [Act.put,sIb,sC0,sC1];refine zAA (i:=8) (oi:=⟨some 31,.indexAddr 22 (.tmp 29) (.tmp 30),0, "stairs.go:50",#[⟨6,.data⟩,⟨7,.data⟩],none⟩) (v:=(.pointer (some ⟨gk0,cc*2,none⟩))) rfl (by kernel_rfl) (fun _ _ _ h=>h) (Or.inl ⟨by rfl,?_⟩) (KB.out _ GB.out) ?_
    ·intro w hSw;(try dsimp only at hSw);go_simp
    simp only [Act.put,sIb,sC0,sC1];refine zAA (i:=9) (oi:=⟨some 32,.load 39 (.tmp 31),39, "stairs.go:50",#[⟨8,.data⟩],none⟩) (v:=(.agg #[.bool np,.slice ap lp cp])) rfl (by kernel_rfl) (fun _ _ _ h=>h) (Or.inl ⟨by rfl,?_⟩) (KB.out _ GB.out) ?_
    ·intro w hSw;(try dsimp only at hSw);go_simp
    simp only [Act.put,sIb,sC0,sC1];refine zAA (i:=10) (oi:=⟨some 33,.move (.tmp 1),22, "stairs.go:50",#[⟨16,.gcOnly .lateStores⟩],none⟩) (v:=(.slice (some ⟨g,0,none⟩) n n)) rfl (by kernel_rfl) (fun _ _ _ h=>h) (Or.inl ⟨by rfl,?_⟩) (KB.out _ GB.out) ?_
    ·intro w hSw;(try dsimp only at hSw);go_simp
    simp only [Act.put,sIb,sC0,sC1];refine zAA (i:=11) (oi:=⟨some 34,.move (.tmp 6),3, "stairs.go:50",#[⟨16,.gcOnly .lateStores⟩],none⟩) (v:=(.int .i64 (cc:Int))) rfl (by kernel_rfl) (fun _ _ _ h=>h) (Or.inl ⟨by rfl,?_⟩) (KB.out _ GB.out) ?_
    ·intro w hSw;(try dsimp only at hSw);go_simp
    simp only [Act.put,sIb,sC0,sC1];refine zAA (i:=12) (oi:=⟨some 35,.indexAddr 22 (.tmp 33) (.tmp 34),0, "stairs.go:50",#[⟨10,.data⟩,⟨11,.data⟩,⟨16,.gcOnly .lateStores⟩],none⟩) (v:=(.pointer (some ⟨g,cc*2,none⟩))) rfl (by kernel_rfl) (fun _ _ _ h=>h) (Or.inl ⟨by rfl,?_⟩) (KB.out _ GB.out) ?_
    ·intro w hSw;(try dsimp only at hSw);go_simp
    simp only [Act.put,sIb,sC0,sC1];refine zAA (i:=13) (oi:=⟨some 36,.load 39 (.tmp 35),39, "stairs.go:50",#[⟨12,.data⟩,⟨16,.gcOnly .lateStores⟩],none⟩) (v:=(.agg #[.bool nt,.slice at0 lt ct])) rfl (by kernel_rfl) (fun _ _ _ h=>h) (Or.inl ⟨by rfl,?_⟩) (KB.out _ GB.out) ?_
    ·intro w hSw;(try dsimp only at hSw);go_simp
    simp only [Act.put,sIb,sC0,sC1];refine zsA (i:=14) (j:=15) (oi:=⟨some 7,.alloc 39,0, "stairs.go:50",#[],none⟩) (oj:=⟨some 8,.alloc 39,0, "stairs.go:50",#[],none⟩) (by kernel_rfl) rfl rfl (fun K hK=>?_) (fun K hK=>?_)
    ·skip
     go_simp;obtain ⟨V2,hW⟩:∃V2,D1.alloc zbox=V2:=⟨_,rfl⟩
     obtain ⟨b,sz2⟩:=alo1 D1 zbox;rw [hW] at b sz2;replace GB:=hid (zBA GB.out b);have DP:Hid (Duo V2 D1.heap.size (.bool false) (.slice none 0 0)):=by unfold Hid;rw [←hW];exact Duo.new D1 _ _
     have SP:=hid (show wr.heap.size≤D1.heap.size from GZ.out);replace GZ:Hid (wr.heap.size≤V2.heap.size):=GB.out.size;clear sz2;rw [hW];clear hW b;refine hK.out _ _ (fun _=>KB.out _ GB.out) ?_;clear hK
     try simp only [Act.put]
     refine zCA (i:=15) (o:=⟨some 8,.alloc 39,0, "stairs.go:50",#[],none⟩) (by kernel_rfl) rfl (fun K hK=>?_);go_simp;obtain ⟨V3,hW⟩:∃V3,V2.alloc zbox=V3:=⟨_,rfl⟩
     obtain ⟨b,sz3⟩:=alo1 V2 zbox;rw [hW] at b sz3;replace GB:=hid (zBA GB.out b);have DT:Hid (Duo V3 V2.heap.size (.bool false) (.slice none 0 0)):=by unfold Hid;rw [←hW];exact Duo.new V2 _ _
     have ST:=hid (show wr.heap.size≤V2.heap.size from GZ.out);replace GZ:Hid (wr.heap.size≤V3.heap.size):=GB.out.size;have NE:Hid (D1.heap.size≠V2.heap.size):=by unfold Hid;have:=DP.out.blk;omega
     replace DP:=hid (DP.out.step b);clear sz3;rw [hW];clear hW b;refine hK.out _ _ (fun _=>KB.out _ GB.out) ?_;clear hK
     try simp only [Act.put]
     refine zCA (i:=16) (o:=⟨none,.store 39 (.tmp 7) (.tmp 32),0, "stairs.go:50",#[⟨14,.data⟩,⟨9,.data⟩,⟨0,.phase⟩,⟨1,.phase⟩,⟨2,.phase⟩,⟨3,.phase⟩,⟨4,.phase⟩,⟨5,.phase⟩,⟨6,.phase⟩,⟨7,.phase⟩,⟨8,.phase⟩,⟨9,.phase⟩,⟨10,.textOnly .lateStores⟩,⟨11,.textOnly .lateStores⟩,⟨12,.textOnly .lateStores⟩,⟨13,.textOnly .lateStores⟩,⟨14,.phase⟩,⟨15,.phase⟩],none⟩) (by kernel_rfl) rfl (fun K hK=>?_);have e0:=DP.out.c0;have e1:=DP.out.c1;have e2:=DP.out.fz 0;have e3:=DP.out.fz 1;go_simp;clear e0 e1 e2 e3;obtain ⟨V4,hW⟩:∃V4,((V3.setCell ⟨D1.heap.size,0,none⟩ (.bool np)).setCell ⟨D1.heap.size,1,none⟩ (.slice ap lp cp))=V4:=⟨_,rfl⟩
     replace GB:Hid (Below wr.heap.size wr V4):=by unfold Hid;rw [←hW];exact bset (bset GB.out SP.out) SP.out
     have QP:Hid (Duo V4 D1.heap.size (.bool np) (.slice ap lp cp)):=by unfold Hid;rw [←hW];exact DP.out.set _ _
     replace DT:Hid (Duo V4 V2.heap.size (.bool false) (.slice none 0 0)):=by unfold Hid;rw [←hW];exact DT.out.box (by have:=NE.out;omega) _ _
     clear DP;rw [hW];clear hW;refine hK.out _ _ (fun _=>KB.out _ GB.out) ?_;clear hK
     try simp only [Act.put]
     refine zCA (i:=17) (o:=⟨none,.store 39 (.tmp 8) (.tmp 36),0, "stairs.go:50",#[⟨15,.data⟩,⟨13,.data⟩,⟨16,.chain⟩,⟨0,.phase⟩,⟨1,.phase⟩,⟨2,.phase⟩,⟨3,.phase⟩,⟨4,.phase⟩,⟨5,.phase⟩,⟨6,.phase⟩,⟨7,.phase⟩,⟨8,.phase⟩,⟨9,.phase⟩,⟨10,.phase⟩,⟨11,.phase⟩,⟨12,.phase⟩,⟨13,.phase⟩,⟨14,.phase⟩,⟨15,.phase⟩,⟨16,.phase⟩],none⟩) (by kernel_rfl) rfl (fun K hK=>?_);have e0:=DT.out.c0;have e1:=DT.out.c1;have e2:=DT.out.fz 0;have e3:=DT.out.fz 1;go_simp;clear e0 e1 e2 e3;obtain ⟨V5,hW⟩:∃V5,((V4.setCell ⟨V2.heap.size,0,none⟩ (.bool nt)).setCell ⟨V2.heap.size,1,none⟩ (.slice at0 lt ct))=V5:=⟨_,rfl⟩
     replace GB:Hid (Below wr.heap.size wr V5):=by unfold Hid;rw [←hW];exact bset (bset GB.out ST.out) ST.out
     have QT:Hid (Duo V5 V2.heap.size (.bool nt) (.slice at0 lt ct)):=by unfold Hid;rw [←hW];exact DT.out.set _ _
     replace QP:Hid (Duo V5 D1.heap.size (.bool np) (.slice ap lp cp)):=by unfold Hid;rw [←hW];exact QP.out.box (by have:=NE.out;omega) _ _
     clear DT;rw [hW];clear hW;refine hK.out _ _ (fun h=>absurd h (by decide)) ?_;clear hK
     try simp only [Act.put]
     refine zFA (by kernel_rfl) ?_ _;have FN4:Hid (Bx2 wr V5 (.pointer (some ⟨D1.heap.size,0,none⟩)) (.pointer (some ⟨V2.heap.size,0,none⟩)) (.bool np) (.slice ap lp cp) (.bool nt) (.slice at0 lt ct)):=⟨_,_,rfl,rfl,SP.out,ST.out,by have:=NE.out;omega,QP.out,QT.out,GB.out⟩
     clear GB GZ QP QT SP ST NE;go_wp2_with fail;go_meet;exact FN4.out
    ·skip
     go_simp;obtain ⟨V6,hW⟩:∃V6,D1.alloc zbox=V6:=⟨_,rfl⟩
     obtain ⟨b,sz6⟩:=alo1 D1 zbox;rw [hW] at b sz6;replace GB:=hid (zBA GB.out b);have DT:Hid (Duo V6 D1.heap.size (.bool false) (.slice none 0 0)):=by unfold Hid;rw [←hW];exact Duo.new D1 _ _
     have ST:=hid (show wr.heap.size≤D1.heap.size from GZ.out);replace GZ:Hid (wr.heap.size≤V6.heap.size):=GB.out.size;clear sz6;rw [hW];clear hW b;refine hK.out _ _ (fun _=>KB.out _ GB.out) ?_;clear hK
     try simp only [Act.put]
     refine zCA (i:=14) (o:=⟨some 7,.alloc 39,0, "stairs.go:50",#[],none⟩) (by kernel_rfl) rfl (fun K hK=>?_);go_simp;obtain ⟨V7,hW⟩:∃V7,V6.alloc zbox=V7:=⟨_,rfl⟩
     obtain ⟨b,sz7⟩:=alo1 V6 zbox;rw [hW] at b sz7;replace GB:=hid (zBA GB.out b);have DP:Hid (Duo V7 V6.heap.size (.bool false) (.slice none 0 0)):=by unfold Hid;rw [←hW];exact Duo.new V6 _ _
     have SP:=hid (show wr.heap.size≤V6.heap.size from GZ.out);replace GZ:Hid (wr.heap.size≤V7.heap.size):=GB.out.size;have NE:Hid (D1.heap.size≠V6.heap.size):=by unfold Hid;have:=DT.out.blk;omega
     replace DT:=hid (DT.out.step b);clear sz7;rw [hW];clear hW b;refine hK.out _ _ (fun _=>KB.out _ GB.out) ?_;clear hK
     try simp only [Act.put]
     refine zCA (i:=16) (o:=⟨none,.store 39 (.tmp 7) (.tmp 32),0, "stairs.go:50",#[⟨14,.data⟩,⟨9,.data⟩,⟨0,.phase⟩,⟨1,.phase⟩,⟨2,.phase⟩,⟨3,.phase⟩,⟨4,.phase⟩,⟨5,.phase⟩,⟨6,.phase⟩,⟨7,.phase⟩,⟨8,.phase⟩,⟨9,.phase⟩,⟨10,.textOnly .lateStores⟩,⟨11,.textOnly .lateStores⟩,⟨12,.textOnly .lateStores⟩,⟨13,.textOnly .lateStores⟩,⟨14,.phase⟩,⟨15,.phase⟩],none⟩) (by kernel_rfl) rfl (fun K hK=>?_);have e0:=DP.out.c0;have e1:=DP.out.c1;have e2:=DP.out.fz 0;have e3:=DP.out.fz 1;go_simp;clear e0 e1 e2 e3;obtain ⟨V8,hW⟩:∃V8,((V7.setCell ⟨V6.heap.size,0,none⟩ (.bool np)).setCell ⟨V6.heap.size,1,none⟩ (.slice ap lp cp))=V8:=⟨_,rfl⟩
     replace GB:Hid (Below wr.heap.size wr V8):=by unfold Hid;rw [←hW];exact bset (bset GB.out SP.out) SP.out
     have QP:Hid (Duo V8 V6.heap.size (.bool np) (.slice ap lp cp)):=by unfold Hid;rw [←hW];exact DP.out.set _ _
     replace DT:Hid (Duo V8 D1.heap.size (.bool false) (.slice none 0 0)):=by unfold Hid;rw [←hW];exact DT.out.box (by have:=NE.out;omega) _ _
     clear DP;rw [hW];clear hW;refine hK.out _ _ (fun _=>KB.out _ GB.out) ?_;clear hK
     try simp only [Act.put]
     refine zCA (i:=17) (o:=⟨none,.store 39 (.tmp 8) (.tmp 36),0, "stairs.go:50",#[⟨15,.data⟩,⟨13,.data⟩,⟨16,.chain⟩,⟨0,.phase⟩,⟨1,.phase⟩,⟨2,.phase⟩,⟨3,.phase⟩,⟨4,.phase⟩,⟨5,.phase⟩,⟨6,.phase⟩,⟨7,.phase⟩,⟨8,.phase⟩,⟨9,.phase⟩,⟨10,.phase⟩,⟨11,.phase⟩,⟨12,.phase⟩,⟨13,.phase⟩,⟨14,.phase⟩,⟨15,.phase⟩,⟨16,.phase⟩],none⟩) (by kernel_rfl) rfl (fun K hK=>?_);have e0:=DT.out.c0;have e1:=DT.out.c1;have e2:=DT.out.fz 0;have e3:=DT.out.fz 1;go_simp;clear e0 e1 e2 e3;obtain ⟨V9,hW⟩:∃V9,((V8.setCell ⟨D1.heap.size,0,none⟩ (.bool nt)).setCell ⟨D1.heap.size,1,none⟩ (.slice at0 lt ct))=V9:=⟨_,rfl⟩
     replace GB:Hid (Below wr.heap.size wr V9):=by unfold Hid;rw [←hW];exact bset (bset GB.out ST.out) ST.out
     have QT:Hid (Duo V9 D1.heap.size (.bool nt) (.slice at0 lt ct)):=by unfold Hid;rw [←hW];exact DT.out.set _ _
     replace QP:Hid (Duo V9 V6.heap.size (.bool np) (.slice ap lp cp)):=by unfold Hid;rw [←hW];exact QP.out.box (by have:=NE.out;omega) _ _
     clear DT;rw [hW];clear hW;refine hK.out _ _ (fun h=>absurd h (by decide)) ?_;clear hK
     try simp only [Act.put]
     refine zFA (by kernel_rfl) ?_ _;have FN4:Hid (Bx2 wr V9 (.pointer (some ⟨V6.heap.size,0,none⟩)) (.pointer (some ⟨D1.heap.size,0,none⟩)) (.bool np) (.slice ap lp cp) (.bool nt) (.slice at0 lt ct)):=⟨_,_,rfl,rfl,SP.out,ST.out,by have:=NE.out;omega,QP.out,QT.out,GB.out⟩
     clear GB GZ QP QT SP ST NE;go_wp2_with fail;go_meet;exact FN4.out
   case rest =>
   rename World=>Wo
   obtain ⟨bp,bt,rfl,rfl,hbp,hbt,hpt,dp,dt,b⟩:=hcut;have hbl:=DB.out.blk;have TW1:Hid (zLA (· = g) w Wo):=TW.out.trans (.ofBelow b);replace DB:=hid (DB.out.step b);replace ZB:=hid (ZB.out.now b);replace AR:=hid (AR.out.step b);replace ZL:=hid (ZL.out.now b);replace ZP:=hid (ZP.out.now b);replace ZT:=hid (ZT.out.now b);have DP:=hid dp;have DT:=hid dt;have hgw':=HGW.out;have hbb':=HBB.out;have htz:=TW.out.size;have hgp:bp≠g:=by omega
   have hgt:bt≠g:=by omega
   have hgb:bb≠g:=by omega
   have hpb:bp≠bb:=by omega
   have htb:bt≠bb:=by omega
   have x2':=(KS.out _ TW1.out).1.at (i:=2) rfl;have x3':=(KS.out _ TW1.out).2.2.line GK0.out;have HI:Hid (RI13 Wo g n (fun j=>mi A (gd rs) (gd cs) kk r j) (fun j=>mi A (gd rs) (gd cs) (kk+1) r j) kw n (.int .i64 0) Wo):=⟨0,qs,rfl,Nat.zero_le _,by omega,AR.out,by rw [mx13_zero];exact ZL.out,zLA.refl _ _⟩
   have AW:=AR;clear b dp dt x2 x3 p0 p1 t0 t1 TW c0 hbp hbt AR ZL hbl htz hgw' hbb';go_wp2_with fail
   go_loopg [45] n (fun gk s45 wx=>RI13 Wo g n (fun j=>mi A (gd rs) (gd cs) kk r j) (fun j=>mi A (gd rs) (gd cs) (kk+1) r j) kw gk s45 wx)
   case atStart=>exact HI.out
   case round =>
    clear HI x2' x3';obtain ⟨j,qz,rfl,hjn,hgk,har,hzl,htw⟩:=hrel;have AR:=hid har;have ZL:=hid hzl;have TW:=hid htw;have HG:=hid hgk;have TW2:Hid (zLA (· = g) w wr):=TW1.out.trans htw;have TY:Hid (Ty 39 Wo wr):=zLA.ty13 htw AW.out;have DP2:Hid (Duo wr bp (.bool np) (.slice ap lp cp)):=(htw.block bp DP.out.blk hgp).trans DP.out;have DT2:Hid (Duo wr bt (.bool nt) (.slice at0 lt ct)):=(htw.block bt DT.out.blk hgt).trans DT.out;have DB2:Hid (Duo wr bb (.bool nb) (.slice ab lb cb)):=(htw.block bb DB.out.blk hgb).trans DB.out;have ZP2:=hid (ZP.out.ty TY.out (by decide));have ZT2:=hid (ZT.out.ty TY.out (by decide));have ZB2:=hid (ZB.out.ty TY.out (by decide));clear har hzl htw hgk
    by_cases hlt2:j<n
    ·have hlt2':(j:Int)<(n:Int):=by omega
     obtain ⟨nn,an,ln,cn,q0,q1,zn⟩:=(KS.out _ TW2.out).2.2.at GK0.out hlt2;rw [HLN.out kk hlt,zqB hlt2] at zn;obtain ⟨V1,hV⟩:∃V1,wr.alloc (duo (.bool nn) (.slice an ln cn))=V1:=⟨_,rfl⟩
     obtain ⟨b,sz1⟩:=alo1 wr (duo (.bool nn) (.slice an ln cn));rw [hV] at b sz1;have PN:Hid (Duo V1 wr.heap.size (.bool nn) (.slice an ln cn)):=by unfold Hid;rw [←hV];exact Duo.new wr _ _
     have AR1:=hid (AR.out.step b);have ZL1:=hid (ZL.out.now b);have ZN:=hid (zn.now b);obtain ⟨nx,ax,lx,cx,x0,x1,-,-,zx⟩:=ZL1.out.at AR1.out (t:=j) (by simp;exact hlt2);rw [zqB hlt2] at zx;have ZX:Hid (Zm 0 V1 (.agg #[.bool nx,.slice ax lx cx]) (mi A (gd rs) (gd cs) kk r j) kw):=by
      have e:mx13 (fun j=>mi A (gd rs) (gd cs) kk r j) (fun j=>mi A (gd rs) (gd cs) (kk+1) r j) j j=mi A (gd rs) (gd cs) kk r j:=if_neg (by omega);rw [e] at zx;exact zx
     have TV1:Hid (zLA (· = g) Wo V1):=TW.out.trans (.ofBelow b);have ZP3:=hid (ZP2.out.now b);have ZT3:=hid (ZT2.out.now b);have ZB3:=hid (ZB2.out.now b);have DB3:=hid (DB2.out.step b);have p0:=(DP2.out.step b).c0;have p1:=(DP2.out.step b).c1;have t0:=(DT2.out.step b).c0;have t1:=(DT2.out.step b).c1;have n0:=PN.out.c0;have n1:=PN.out.c1;have HMM:Hid (n-(j+1)<gk):=by unfold Hid;rw [HG.out];omega
     have hwj:=zNA (i:=j) (by omega);have EV:=hid hV;clear zn zx hV b sz1 PN AR ZL TW HG DP2 DT2 DB2 ZP2 ZT2 ZB2 TY TW2;generalize hP:mi A (gd rs) (gd cs) kk (gd rs kk) cc=P at *;generalize hX:mi A (gd rs) (gd cs) kk r j=X at *;generalize hT:mi A (gd rs) (gd cs) kk r cc=T at *;generalize hN:mi A (gd rs) (gd cs) kk (gd rs kk) j=N0 at *;have hP':=hid hP;have hX':=hid hX;have hT':=hid hT;have hN':=hid hN;clear hP hX hT hN;have ZP:=ZP3;have ZT:=ZT3;go_wp2_with fail;rw [EV.out];clear EV q0 q1
     go_cut [11] from 46 to 69 (fun s1 wx=>MetX V1 wx s1 (P*X-T*N0) (kw+kw+1))
     case first =>
      have KB:Hid (∀w',Below V1.heap.size V1 w'→w'.cell? ⟨bp,0,none⟩=some (.bool np)∧w'.cell? ⟨bp,1,none⟩=some (.slice ap lp cp)∧w'.cell? ⟨bt,0,none⟩=some (.bool nt)∧w'.cell? ⟨bt,1,none⟩=some (.slice at0 lt ct)∧w'.cell? ⟨g,j*2,none⟩=some (.bool nx)∧w'.cell? ⟨g,j*2+1,none⟩=some (.slice ax lx cx)∧w'.cell? ⟨wr.heap.size,0,none⟩=some (.bool nn)∧w'.cell? ⟨wr.heap.size,1,none⟩=some (.slice an ln cn)):=fun w' h=>⟨cnow h p0,cnow h p1,cnow h t0,cnow h t1,cnow h x0,cnow h x1,cnow h n0,cnow h n1⟩
      refine zDA (fun w'=>w'.cell? ⟨bp,0,none⟩=some (.bool np)∧w'.cell? ⟨bp,1,none⟩=some (.slice ap lp cp)∧w'.cell? ⟨bt,0,none⟩=some (.bool nt)∧w'.cell? ⟨bt,1,none⟩=some (.slice at0 lt ct)∧w'.cell? ⟨g,j*2,none⟩=some (.bool nx)∧w'.cell? ⟨g,j*2+1,none⟩=some (.slice ax lx cx)∧w'.cell? ⟨wr.heap.size,0,none⟩=some (.bool nn)∧w'.cell? ⟨wr.heap.size,1,none⟩=some (.slice an ln cn)) 11 (by kernel_rfl) ?_;obtain ⟨D31,hD⟩:∃D31,V1.drew=D31:=⟨_,rfl⟩
      have GB:Hid (Below V1.heap.size V1 D31):=by unfold Hid;rw [←hD];exact (Below.refl _ _).drew
      rw [hD];clear hD;have GZ:Hid (V1.heap.size≤D31.heap.size):=GB.out.size;refine zAA (i:=0) (oi:=⟨some 50,.load 39 (.tmp 7),39, "stairs.go:52",#[],none⟩) (v:=(.agg #[.bool np,.slice ap lp cp])) rfl (by kernel_rfl) (fun _ _ _ h=>h) (Or.inl ⟨by rfl,?_⟩) (KB.out _ GB.out) ?_
      ·intro w hSw;(try dsimp only at hSw);go_simp
      simp only [Act.put,sIb,sC0,sC1];refine zAA (i:=1) (oi:=⟨some 51,.move (.tmp 1),22, "stairs.go:52",#[],none⟩) (v:=(.slice (some ⟨g,0,none⟩) n n)) rfl (by kernel_rfl) (fun _ _ _ h=>h) (Or.inl ⟨by rfl,?_⟩) (KB.out _ GB.out) ?_
      ·intro w hSw;(try dsimp only at hSw);go_simp
      simp only [Act.put,sIb,sC0,sC1];refine zAA (i:=2) (oi:=⟨some 52,.move (.tmp 9),3, "stairs.go:52",#[],none⟩) (v:=(.int .i64 (j:Int))) rfl (by kernel_rfl) (fun _ _ _ h=>h) (Or.inl ⟨by rfl,?_⟩) (KB.out _ GB.out) ?_
      ·intro w hSw;(try dsimp only at hSw);go_simp
      simp only [Act.put,sIb,sC0,sC1];refine zAA (i:=3) (oi:=⟨some 53,.indexAddr 22 (.tmp 51) (.tmp 52),0, "stairs.go:52",#[⟨1,.data⟩,⟨2,.data⟩],none⟩) (v:=(.pointer (some ⟨g,j*2,none⟩))) rfl (by kernel_rfl) (fun _ _ _ h=>h) (Or.inl ⟨by rfl,?_⟩) (KB.out _ GB.out) ?_
      ·intro w hSw;(try dsimp only at hSw);go_simp
      simp only [Act.put,sIb,sC0,sC1];refine zAA (i:=4) (oi:=⟨some 54,.load 39 (.tmp 53),39, "stairs.go:52",#[⟨3,.data⟩],none⟩) (v:=(.agg #[.bool nx,.slice ax lx cx])) rfl (by kernel_rfl) (fun _ _ _ h=>h) (Or.inl ⟨by rfl,?_⟩) (KB.out _ GB.out) ?_
      ·intro w hSw;(try dsimp only at hSw);go_simp
      simp only [Act.put,sIb,sC0,sC1];refine zAA (i:=6) (oi:=⟨some 56,.load 39 (.tmp 8),39, "stairs.go:52",#[],none⟩) (v:=(.agg #[.bool nt,.slice at0 lt ct])) rfl (by kernel_rfl) (fun _ _ _ h=>h) (Or.inl ⟨by rfl,?_⟩) (KB.out _ GB.out) ?_
      ·intro w hSw;(try dsimp only at hSw);go_simp
      simp only [Act.put,sIb,sC0,sC1];refine zAA (i:=7) (oi:=⟨some 57,.load 39 (.tmp 10),39, "stairs.go:52",#[],none⟩) (v:=(.agg #[.bool nn,.slice an ln cn])) rfl (by kernel_rfl) (fun _ _ _ h=>h) (Or.inl ⟨by rfl,?_⟩) (KB.out _ GB.out) ?_
      ·intro w hSw;(try dsimp only at hSw);go_simp
      simp only [Act.put,sIb,sC0,sC1];refine zsA (i:=5) (j:=10) (oi:=⟨some 55,.call { callee:=.value (.func 59),args:=#[.tmp 50,.tmp 54],argTypes:=#[39,39] },39, "stairs.go:52",#[⟨0,.data⟩,⟨4,.data⟩],none⟩) (oj:=⟨some 11,.alloc 39,0, "stairs.go:52",#[],none⟩) (by kernel_rfl) rfl rfl (fun K hK=>?_) (fun K hK=>?_)
      ·skip
       replace GZ:Hid (V1.heap.size≤D31.heap.size):=GB.out.size;go_simp;go_at_call 59;refine (zJD (ZP.out.now GB.out).zi (ZX.out.now GB.out).zi (by have:=HKW.out;omega)).mono ?_;rintro e w32 ⟨r1,rfl,m1,b⟩;have lz32:=(show Below _ _ _ from b).size;replace GB:=hid (zBA GB.out b);have M1:=hid (m1.mono (Nat.zero_le _));clear m1;clear b;refine hK.out _ _ (fun _=>KB.out _ GB.out) ?_;clear hK;refine zsA (i:=8) (j:=10) (oi:=⟨some 58,.call { callee:=.value (.func 59),args:=#[.tmp 56,.tmp 57],argTypes:=#[39,39] },39, "stairs.go:52",#[⟨6,.data⟩,⟨7,.data⟩,⟨5,.chain⟩],none⟩) (oj:=⟨some 11,.alloc 39,0, "stairs.go:52",#[],none⟩) (by kernel_rfl) rfl rfl (fun K hK=>?_) (fun K hK=>?_)
       ·skip
        replace GZ:Hid (V1.heap.size≤w32.heap.size):=GB.out.size;go_simp;go_at_call 59;refine (zJD (ZT.out.now GB.out).zi (ZN.out.now GB.out).zi (by have:=HKW.out;omega)).mono ?_;rintro e w33 ⟨r2,rfl,m1,b⟩;have lz33:=(show Below _ _ _ from b).size;replace GB:=hid (zBA GB.out b);have M2:=hid (m1.mono (Nat.zero_le _));clear m1;replace M1:=hid (M1.out.now b);clear b;refine hK.out _ _ (fun _=>KB.out _ GB.out) ?_;clear hK;refine zsA (i:=9) (j:=10) (oi:=⟨some 59,.call { callee:=.value (.func 64),args:=#[.tmp 55,.tmp 58],argTypes:=#[39,39] },39, "stairs.go:52",#[⟨5,.data⟩,⟨8,.data⟩,⟨8,.chain⟩],none⟩) (oj:=⟨some 11,.alloc 39,0, "stairs.go:52",#[],none⟩) (by kernel_rfl) rfl rfl (fun K hK=>?_) (fun K hK=>?_)
        ·skip
         replace GZ:Hid (V1.heap.size≤w33.heap.size):=GB.out.size;go_simp;go_at_call 64;refine (ztE M1.out.zi M2.out.zi (by have:=HKW.out;omega) (by have:=HKW.out;omega)).mono ?_;rintro e w34 ⟨r3,rfl,m1,b⟩;have lz34:=(show Below _ _ _ from b).size;replace GB:=hid (zBA GB.out b);have M3:=hid (m1.mono (Nat.zero_le _));clear m1;obtain ⟨nr,xr,ar,cr,rfl⟩:=M3.out.parts;clear M1 M2;clear b;refine hK.out _ _ (fun _=>KB.out _ GB.out) ?_;clear hK;refine zCA (i:=10) (o:=⟨some 11,.alloc 39,0, "stairs.go:52",#[],none⟩) (by kernel_rfl) rfl (fun K hK=>?_);replace GZ:Hid (V1.heap.size≤w34.heap.size):=GB.out.size;go_simp;obtain ⟨V35,hW⟩:∃V35,w34.alloc zbox=V35:=⟨_,rfl⟩
         obtain ⟨b,sz35⟩:=alo1 w34 zbox;rw [hW] at b sz35;replace GB:=hid (zBA GB.out b);have DX:Hid (Duo V35 w34.heap.size (.bool false) (.slice none 0 0)):=by unfold Hid;rw [←hW];exact Duo.new w34 _ _
         have SX:=hid (show V1.heap.size≤w34.heap.size from GZ.out);clear sz35;replace M3:=hid (M3.out.now b);rw [hW];clear hW b;refine hK.out _ _ (fun _=>KB.out _ GB.out) ?_;clear hK
         try simp only [Act.put]
         refine zCA (i:=11) (o:=⟨none,.store 39 (.tmp 11) (.tmp 59),0, "stairs.go:52",#[⟨10,.data⟩,⟨9,.data⟩,⟨9,.chain⟩,⟨0,.phase⟩,⟨1,.phase⟩,⟨2,.phase⟩,⟨3,.phase⟩,⟨4,.phase⟩,⟨5,.phase⟩,⟨6,.phase⟩,⟨7,.phase⟩,⟨8,.phase⟩,⟨9,.phase⟩,⟨10,.phase⟩],none⟩) (by kernel_rfl) rfl (fun K hK=>?_);have e0:=DX.out.c0;have e1:=DX.out.c1;have e2:=DX.out.fz 0;have e3:=DX.out.fz 1;go_simp;clear e0 e1 e2 e3;obtain ⟨V36,hW⟩:∃V36,((V35.setCell ⟨w34.heap.size,0,none⟩ (.bool nr)).setCell ⟨w34.heap.size,1,none⟩ (.slice ar xr.length cr))=V36:=⟨_,rfl⟩
         have MB:Hid (MetX V1 V36 (.pointer (some ⟨w34.heap.size,0,none⟩)) (P*X-T*N0) (kw+kw+1)):=by
          unfold Hid;rw [←hW];exact zAF DX.out (M3.out.more (by omega)) GB.out SX.out
         rw [hW];clear hW;refine hK.out _ _ (fun h=>absurd h (by decide)) ?_;clear hK
         try simp only [Act.put]
         refine zFA (by kernel_rfl) ?_ _;clear DX SX M3 GB GZ;go_wp2_with fail;go_meet;exact MB.out
        ·skip
         replace GZ:Hid (V1.heap.size≤w33.heap.size):=GB.out.size;go_simp;obtain ⟨V37,hW⟩:∃V37,w33.alloc zbox=V37:=⟨_,rfl⟩
         obtain ⟨b,sz37⟩:=alo1 w33 zbox;rw [hW] at b sz37;replace GB:=hid (zBA GB.out b);have DX:Hid (Duo V37 w33.heap.size (.bool false) (.slice none 0 0)):=by unfold Hid;rw [←hW];exact Duo.new w33 _ _
         have SX:=hid (show V1.heap.size≤w33.heap.size from GZ.out);clear sz37;replace M1:=hid (M1.out.now b);replace M2:=hid (M2.out.now b);rw [hW];clear hW b;refine hK.out _ _ (fun _=>KB.out _ GB.out) ?_;clear hK
         try simp only [Act.put]
         refine zCA (i:=9) (o:=⟨some 59,.call { callee:=.value (.func 64),args:=#[.tmp 55,.tmp 58],argTypes:=#[39,39] },39, "stairs.go:52",#[⟨5,.data⟩,⟨8,.data⟩,⟨8,.chain⟩],none⟩) (by kernel_rfl) rfl (fun K hK=>?_);replace GZ:Hid (V1.heap.size≤V37.heap.size):=GB.out.size;go_simp;go_at_call 64;refine (ztE M1.out.zi M2.out.zi (by have:=HKW.out;omega) (by have:=HKW.out;omega)).mono ?_;rintro e w38 ⟨r3,rfl,m1,b⟩;have lz38:=(show Below _ _ _ from b).size;replace GB:=hid (zBA GB.out b);have M3:=hid (m1.mono (Nat.zero_le _));clear m1;replace DX:=hid (DX.out.step b);obtain ⟨nr,xr,ar,cr,rfl⟩:=M3.out.parts;clear M1 M2;clear b;refine hK.out _ _ (fun _=>KB.out _ GB.out) ?_;clear hK;refine zCA (i:=11) (o:=⟨none,.store 39 (.tmp 11) (.tmp 59),0, "stairs.go:52",#[⟨10,.data⟩,⟨9,.data⟩,⟨9,.chain⟩,⟨0,.phase⟩,⟨1,.phase⟩,⟨2,.phase⟩,⟨3,.phase⟩,⟨4,.phase⟩,⟨5,.phase⟩,⟨6,.phase⟩,⟨7,.phase⟩,⟨8,.phase⟩,⟨9,.phase⟩,⟨10,.phase⟩],none⟩) (by kernel_rfl) rfl (fun K hK=>?_);have e0:=DX.out.c0;have e1:=DX.out.c1;have e2:=DX.out.fz 0;have e3:=DX.out.fz 1;go_simp;clear e0 e1 e2 e3;obtain ⟨V39,hW⟩:∃V39,((w38.setCell ⟨w33.heap.size,0,none⟩ (.bool nr)).setCell ⟨w33.heap.size,1,none⟩ (.slice ar xr.length cr))=V39:=⟨_,rfl⟩
         have MB:Hid (MetX V1 V39 (.pointer (some ⟨w33.heap.size,0,none⟩)) (P*X-T*N0) (kw+kw+1)):=by
          unfold Hid;rw [←hW];exact zAF DX.out (M3.out.more (by omega)) GB.out SX.out
         rw [hW];clear hW;refine hK.out _ _ (fun h=>absurd h (by decide)) ?_;clear hK
         try simp only [Act.put]
         refine zFA (by kernel_rfl) ?_ _;clear DX SX M3 GB GZ;go_wp2_with fail;go_meet;exact MB.out
       ·skip
        replace GZ:Hid (V1.heap.size≤w32.heap.size):=GB.out.size;go_simp;obtain ⟨V40,hW⟩:∃V40,w32.alloc zbox=V40:=⟨_,rfl⟩
        obtain ⟨b,sz40⟩:=alo1 w32 zbox;rw [hW] at b sz40;replace GB:=hid (zBA GB.out b);have DX:Hid (Duo V40 w32.heap.size (.bool false) (.slice none 0 0)):=by unfold Hid;rw [←hW];exact Duo.new w32 _ _
        have SX:=hid (show V1.heap.size≤w32.heap.size from GZ.out);clear sz40;replace M1:=hid (M1.out.now b);rw [hW];clear hW b;refine hK.out _ _ (fun _=>KB.out _ GB.out) ?_;clear hK
        try simp only [Act.put]
        refine zCA (i:=8) (o:=⟨some 58,.call { callee:=.value (.func 59),args:=#[.tmp 56,.tmp 57],argTypes:=#[39,39] },39, "stairs.go:52",#[⟨6,.data⟩,⟨7,.data⟩,⟨5,.chain⟩],none⟩) (by kernel_rfl) rfl (fun K hK=>?_);replace GZ:Hid (V1.heap.size≤V40.heap.size):=GB.out.size;go_simp;go_at_call 59;refine (zJD (ZT.out.now GB.out).zi (ZN.out.now GB.out).zi (by have:=HKW.out;omega)).mono ?_;rintro e w41 ⟨r2,rfl,m1,b⟩;have lz41:=(show Below _ _ _ from b).size;replace GB:=hid (zBA GB.out b);have M2:=hid (m1.mono (Nat.zero_le _));clear m1;replace DX:=hid (DX.out.step b);replace M1:=hid (M1.out.now b);clear b;refine hK.out _ _ (fun _=>KB.out _ GB.out) ?_;clear hK;refine zCA (i:=9) (o:=⟨some 59,.call { callee:=.value (.func 64),args:=#[.tmp 55,.tmp 58],argTypes:=#[39,39] },39, "stairs.go:52",#[⟨5,.data⟩,⟨8,.data⟩,⟨8,.chain⟩],none⟩) (by kernel_rfl) rfl (fun K hK=>?_);replace GZ:Hid (V1.heap.size≤w41.heap.size):=GB.out.size;go_simp;go_at_call 64;refine (ztE M1.out.zi M2.out.zi (by have:=HKW.out;omega) (by have:=HKW.out;omega)).mono ?_;rintro e w42 ⟨r3,rfl,m1,b⟩;have lz42:=(show Below _ _ _ from b).size;replace GB:=hid (zBA GB.out b);have M3:=hid (m1.mono (Nat.zero_le _));clear m1;replace DX:=hid (DX.out.step b);obtain ⟨nr,xr,ar,cr,rfl⟩:=M3.out.parts;clear M1 M2;clear b;refine hK.out _ _ (fun _=>KB.out _ GB.out) ?_;clear hK;refine zCA (i:=11) (o:=⟨none,.store 39 (.tmp 11) (.tmp 59),0, "stairs.go:52",#[⟨10,.data⟩,⟨9,.data⟩,⟨9,.chain⟩,⟨0,.phase⟩,⟨1,.phase⟩,⟨2,.phase⟩,⟨3,.phase⟩,⟨4,.phase⟩,⟨5,.phase⟩,⟨6,.phase⟩,⟨7,.phase⟩,⟨8,.phase⟩,⟨9,.phase⟩,⟨10,.phase⟩],none⟩) (by kernel_rfl) rfl (fun K hK=>?_);have e0:=DX.out.c0;have e1:=DX.out.c1;have e2:=DX.out.fz 0;have e3:=DX.out.fz 1;go_simp;clear e0 e1 e2 e3;obtain ⟨V43,hW⟩:∃V43,((w42.setCell ⟨w32.heap.size,0,none⟩ (.bool nr)).setCell ⟨w32.heap.size,1,none⟩ (.slice ar xr.length cr))=V43:=⟨_,rfl⟩
        have MB:Hid (MetX V1 V43 (.pointer (some ⟨w32.heap.size,0,none⟩)) (P*X-T*N0) (kw+kw+1)):=by
         unfold Hid;rw [←hW];exact zAF DX.out (M3.out.more (by omega)) GB.out SX.out
        rw [hW];clear hW;refine hK.out _ _ (fun h=>absurd h (by decide)) ?_;clear hK
        try simp only [Act.put]
        refine zFA (by kernel_rfl) ?_ _;clear DX SX M3 GB GZ;go_wp2_with fail;go_meet;exact MB.out
      ·skip
       replace GZ:Hid (V1.heap.size≤D31.heap.size):=GB.out.size;go_simp;obtain ⟨V44,hW⟩:∃V44,D31.alloc zbox=V44:=⟨_,rfl⟩
       obtain ⟨b,sz44⟩:=alo1 D31 zbox;rw [hW] at b sz44;replace GB:=hid (zBA GB.out b);have DX:Hid (Duo V44 D31.heap.size (.bool false) (.slice none 0 0)):=by unfold Hid;rw [←hW];exact Duo.new D31 _ _
       have SX:=hid (show V1.heap.size≤D31.heap.size from GZ.out);clear sz44;rw [hW];clear hW b;refine hK.out _ _ (fun _=>KB.out _ GB.out) ?_;clear hK
       try simp only [Act.put]
       refine zCA (i:=5) (o:=⟨some 55,.call { callee:=.value (.func 59),args:=#[.tmp 50,.tmp 54],argTypes:=#[39,39] },39, "stairs.go:52",#[⟨0,.data⟩,⟨4,.data⟩],none⟩) (by kernel_rfl) rfl (fun K hK=>?_);replace GZ:Hid (V1.heap.size≤V44.heap.size):=GB.out.size;go_simp;go_at_call 59;refine (zJD (ZP.out.now GB.out).zi (ZX.out.now GB.out).zi (by have:=HKW.out;omega)).mono ?_;rintro e w45 ⟨r1,rfl,m1,b⟩;have lz45:=(show Below _ _ _ from b).size;replace GB:=hid (zBA GB.out b);have M1:=hid (m1.mono (Nat.zero_le _));clear m1;replace DX:=hid (DX.out.step b);clear b;refine hK.out _ _ (fun _=>KB.out _ GB.out) ?_;clear hK;refine zCA (i:=8) (o:=⟨some 58,.call { callee:=.value (.func 59),args:=#[.tmp 56,.tmp 57],argTypes:=#[39,39] },39, "stairs.go:52",#[⟨6,.data⟩,⟨7,.data⟩,⟨5,.chain⟩],none⟩) (by kernel_rfl) rfl (fun K hK=>?_);replace GZ:Hid (V1.heap.size≤w45.heap.size):=GB.out.size;go_simp;go_at_call 59;refine (zJD (ZT.out.now GB.out).zi (ZN.out.now GB.out).zi (by have:=HKW.out;omega)).mono ?_;rintro e w46 ⟨r2,rfl,m1,b⟩;have lz46:=(show Below _ _ _ from b).size;replace GB:=hid (zBA GB.out b);have M2:=hid (m1.mono (Nat.zero_le _));clear m1;replace DX:=hid (DX.out.step b);replace M1:=hid (M1.out.now b);clear b;refine hK.out _ _ (fun _=>KB.out _ GB.out) ?_;clear hK;refine zCA (i:=9) (o:=⟨some 59,.call { callee:=.value (.func 64),args:=#[.tmp 55,.tmp 58],argTypes:=#[39,39] },39, "stairs.go:52",#[⟨5,.data⟩,⟨8,.data⟩,⟨8,.chain⟩],none⟩) (by kernel_rfl) rfl (fun K hK=>?_);replace GZ:Hid (V1.heap.size≤w46.heap.size):=GB.out.size;go_simp;go_at_call 64;refine (ztE M1.out.zi M2.out.zi (by have:=HKW.out;omega) (by have:=HKW.out;omega)).mono ?_;rintro e w47 ⟨r3,rfl,m1,b⟩;have lz47:=(show Below _ _ _ from b).size;replace GB:=hid (zBA GB.out b);have M3:=hid (m1.mono (Nat.zero_le _));clear m1;replace DX:=hid (DX.out.step b);obtain ⟨nr,xr,ar,cr,rfl⟩:=M3.out.parts;clear M1 M2;clear b;refine hK.out _ _ (fun _=>KB.out _ GB.out) ?_;clear hK;refine zCA (i:=11) (o:=⟨none,.store 39 (.tmp 11) (.tmp 59),0, "stairs.go:52",#[⟨10,.data⟩,⟨9,.data⟩,⟨9,.chain⟩,⟨0,.phase⟩,⟨1,.phase⟩,⟨2,.phase⟩,⟨3,.phase⟩,⟨4,.phase⟩,⟨5,.phase⟩,⟨6,.phase⟩,⟨7,.phase⟩,⟨8,.phase⟩,⟨9,.phase⟩,⟨10,.phase⟩],none⟩) (by kernel_rfl) rfl (fun K hK=>?_);have e0:=DX.out.c0;have e1:=DX.out.c1;have e2:=DX.out.fz 0;have e3:=DX.out.fz 1;go_simp;clear e0 e1 e2 e3;obtain ⟨V48,hW⟩:∃V48,((w47.setCell ⟨D31.heap.size,0,none⟩ (.bool nr)).setCell ⟨D31.heap.size,1,none⟩ (.slice ar xr.length cr))=V48:=⟨_,rfl⟩
       have MB:Hid (MetX V1 V48 (.pointer (some ⟨D31.heap.size,0,none⟩)) (P*X-T*N0) (kw+kw+1)):=by
        unfold Hid;rw [←hW];exact zAF DX.out (M3.out.more (by omega)) GB.out SX.out
       rw [hW];clear hW;refine hK.out _ _ (fun h=>absurd h (by decide)) ?_;clear hK
       try simp only [Act.put]
       refine zFA (by kernel_rfl) ?_ _;clear DX SX M3 GB GZ;go_wp2_with fail;go_meet;exact MB.out
     case rest =>
     rename World=>Wx
     obtain ⟨bx,nr,xr,ar,cr,rfl,b,hbx,dx,zx⟩:=hcut;have HE:Hid (P*X-T*N0=dd A (gd rs) (gd cs) kk*mi A (gd rs) (gd cs) (kk+1) r j):=by
      have h:=mi_step A (gd rs) (gd cs) kk r j (HNZ.out kk (by omega));unfold Hid;have ec:gd cs kk=cc:=ECC.out;rw [←h,ec,←EP.out,←hX'.out,←hT'.out,←hN'.out]
     have HS:=hid (zoD zx.zi (ZB3.out.now b).zi (HNZ.out kk (by omega)) (by have:=HKW.out;omega) (by have:=HKW.out;omega) (by rw [HE.out];exact Int.mul_tmod_right _ _));rw [HE.out,Int.mul_tdiv_cancel_left _ (HNZ.out kk (by omega))] at HS;have d0:=dx.c0;have d1:=dx.c1;have e0:=(DB3.out.step b).c0;have e1:=(DB3.out.step b).c1;have BX:=hid b;clear zx b dx;go_wp2_with fail;refine HS.out.mono ?_;rintro e w2 ⟨rq,rfl,mq,bq⟩;obtain ⟨nq,xq,aq,cq,rfl⟩:=mq.parts;have BW:=hid (zBA BX.out bq);have AR2:=hid (AR1.out.step BW.out);have ZL2:=hid (ZL1.out.now BW.out);have MQ:=hid ((mq.mono (Nat.zero_le _)).fit (HF.out (kk+1) r j (by omega)));obtain ⟨_,_,_,_,f0,f1,f2,f3,-⟩:=ZL2.out.at AR2.out (t:=j) (by simp;exact hlt2);have HN1:Hid (RI13 Wo g n (fun j=>mi A (gd rs) (gd cs) kk r j) (fun j=>mi A (gd rs) (gd cs) (kk+1) r j) kw (n-(j+1)) (.int .i64 ((j+1:Nat):Int)) (putp w2 g j (.bool nq) (.slice aq xq.length cq))):=by
      obtain ⟨u1,u2,u3⟩:=ZL2.out.put AR2.out (t:=j) (by simp;exact hlt2) MQ.out;rw [mx13_step _ _ hlt2] at u2;refine ⟨j+1,_,rfl,by omega,rfl,u1,u2,?_⟩;exact ((TV1.out.trans (.ofBelow BW.out)).setCell (.inr rfl) _ _).setCell (.inr rfl) _ _
     clear HS mq bq BW AR2 ZL2 MQ BX d0 d1 e0 e1 AR1 ZL1 ZX ZN TV1 ZP3 ZT3 ZB3 DB3 p0 p1 t0 t1 n0 n1 x0 x1 hP' hX' hT' hN';go_wp2_with fail;go_roundg (n-(j+1))
     case rel=>exact HN1.out
     case measure=>exact HMM.out
    ·have hlt2':¬(j:Int)<(n:Int):=by omega
     obtain rfl:j=n:=by omega
     have p0:=DP2.out.c0;have p1:=DP2.out.c1;have e0:=DB2.out.c0;have e1:=DB2.out.c1;have e2:=DB2.out.fz 0;have e3:=DB2.out.fz 1;have HN1:Hid (RO13 A w bb g j rs cs r kw Kn (Kn-(kk+1)) (.int .i64 ((kk+1:Nat):Int)) ((wr.setCell ⟨bb,0,none⟩ (.bool np)).setCell ⟨bb,1,none⟩ (.slice ap lp cp))):=by
      have ty:=DB2.out.ty13 (.bool np) (.slice ap lp cp);refine ⟨kk+1,qz,np,ap,lp,cp,rfl,by omega,rfl,DB2.out.set _ _,?_,(AR.out.ne hgb).ne hgb,?_,?_⟩
      ·rw [←EP.out];exact ZP2.out.ty ty (by decide)
      ·have z:=ZL.out.ty ty (by decide)
       rw [mx13_all] at z;exact z
      ·exact (TW2.out.setCell (.inl HBB.out) _ _).setCell (.inl HBB.out) _ _
     clear AR ZL TW HG DP2 DT2 DB2 ZP2 ZT2 ZB2 TY TW2 AW DB ZB DP DT ZP ZT TW1;go_wp2_with fail;go_roundg (Kn-(kk+1))
     case rel=>exact HN1.out
     case measure=>exact HMO.out
  ·have hlt':¬(kk:Int)<(Kn:Int):=by omega
   obtain rfl:kk=Kn:=by omega
   have FF:=hid (FIN.out wr ⟨qs,AR.out,ZL.out,TW.out⟩);clear DB ZB AR ZL TW HG FIN;go_wp2;go_end0;exact FF.out
end Go.Proofs.YtjnokjgbeploaaaGreat
