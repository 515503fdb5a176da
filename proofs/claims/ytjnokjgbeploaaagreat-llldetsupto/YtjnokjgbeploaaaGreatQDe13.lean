import Derived.Test.YtjnokjgbeploaaaGreatQSo13ToInts9
set_option maxRecDepth 100000
set_option maxHeartbeats 6400000
set_option linter.unusedVariables false
set_option linter.unusedSimpArgs false
namespace Go.Proofs.YtjnokjgbeploaaaGreat
open Go.RowKit
abbrev zdE (pb:Nat):Value:=.func (.func 52) #[] #[.pointer (some ⟨pb,0,none⟩)]
theorem big13 {w:World} {x n:Int} {pb:Nat} (hp:w.cell? ⟨pb,0,none⟩=some (.int .i64 n)):Calls Tryz.prog 52 #[.int .i64 x,.pointer (some ⟨pb,0,none⟩)] w fun e w'=>e=.returned (.bool (decide (n≤x)))∧w'=w:=by
 go_enter Tryz.func52,Tryz.ntmps52;go_wp2;go_ret;exact ⟨rfl,rfl⟩
def BgH (w:World) (cs:List Nat) (kk n gk:Nat) (s:Value) (wx:World):Prop:=∃i:Nat,s=.int .i64 (i:Int)∧i≤n∧gk=n-i∧(∀j,j<i→cs.getD j 0<kk)∧wx=w
def zsI (w:World) (cs:List Nat) (kk:Nat) (e:Ending) (w':World):Prop:=∃r:Int,e=.returned (.int .i64 r)∧((0:Int)≤r↔∃c∈cs,kk≤c)∧Below w.heap.size w w'
theorem indexb13 {w:World} {B:Nat} {v:Value} {cs:List Nat} {kk pb:Nat} (hv:Ivs B w v cs) (hp:w.cell? ⟨pb,0,none⟩=some (.int .i64 (kk:Int))) (hl:cs.length≤64) :
  Calls Tryz.prog 66 #[v,zdE pb] w (zsI w cs kk):=by
 have V0:=hid hv;have P0:=hid hp;obtain ⟨a0,c0,rfl,hc0,hf0⟩:=hv.form;obtain ⟨n,hn⟩:∃n,cs.length=n:=⟨_,rfl⟩
 rw [hn] at V0 hc0 hl ⊢;have HN:=hid hn;have F0:Hid (0<n→∃g,a0=some ⟨g,0,none⟩):=fun q=>hf0 (by omega)
 clear hv hf0 hn hp;have H0:Hid (BgH w cs kk n n (.int .i64 0) w):=⟨0,rfl,Nat.zero_le _,rfl,fun j hj=>by omega,rfl⟩
 go_enter Tryz.func66,Tryz.ntmps66;go_wp2_with fail
 go_loopg [8] n (fun g s8 wx=>BgH w cs kk n g s8 wx)
 case atStart=>exact H0.out
 case round =>
  clear H0;obtain ⟨i,rfl,hin,hg,hz,rfl⟩:=hrel;have HG:=hid hg;have HZ:=hid hz;clear hg hz
  by_cases hlt:i<n
  ·have hlt':(i:Int)<(n:Int):=by omega
   obtain ⟨b1,rfl⟩:=F0.out (by omega);have k0:=V0.out.at (i:=i) (by rw [HN.out];exact hlt);obtain ⟨o,ho⟩:∃o,cs.getD i 0=o:=⟨_,rfl⟩
   rw [ho] at k0;have HS:=hid (big13 (x:=(o:Int)) P0.out);have hw:=zNA (i:=i) (by omega)
   by_cases hko:kk≤o
   ·have e0:decide ((kk:Int)≤(o:Int))=true:=by rw [decide_eq_true_eq];omega
    rw [e0] at HS;have FIN:Hid (zsI wr cs kk (.returned (.int .i64 (i:Int))) wr):=⟨(i:Int),rfl,⟨fun _=>⟨o,by rw [←ho];simp [show i<cs.length by rw [HN.out];exact hlt],hko⟩,fun _=>by omega⟩,Below.refl _ _⟩
    clear ho hko e0;go_wp2_with fail;refine HS.out.mono ?_;rintro e w1 ⟨rfl,q⟩;rw [q];clear HS HG HZ k0 q;go_wp2;go_ret;exact FIN.out
   ·have e0:decide ((kk:Int)≤(o:Int))=false:=by rw [decide_eq_false_iff_not];omega
    rw [e0] at HS;have HN1:Hid (BgH wr cs kk n (n-(i+1)) (.int .i64 ((i+1:Nat):Int)) wr):=⟨i+1,rfl,by omega,rfl,fun j hj=>by
     by_cases q:j<i
     ·exact HZ.out j q
     ·obtain rfl:j=i:=by omega
      omega,rfl⟩
    have HMM:Hid (n-(i+1)<gk):=by unfold Hid;rw [HG.out];omega
    clear ho hko e0;go_wp2_with fail;refine HS.out.mono ?_;rintro e w1 ⟨rfl,q⟩;rw [q];clear HS HG HZ k0 q;go_wp2_with fail;go_roundg (n-(i+1))
    case rel=>exact HN1.out
    case measure=>exact HMM.out
  ·have hlt':¬(i:Int)<(n:Int):=by omega
   have FIN:Hid (zsI wr cs kk (.returned (.int .i64 (-1))) wr):=⟨-1,rfl,⟨fun h=>by omega,fun ⟨c,hc,hk⟩=>by
    obtain ⟨j,hj,e⟩:=List.getElem_of_mem hc;have:=HZ.out j (by rw [HN.out] at hj;omega);simp [hj,e] at this;omega⟩,Below.refl _ _⟩
   clear HG HZ;go_wp2;go_ret;exact FIN.out
theorem containsb13 {w:World} {B:Nat} {v:Value} {cs:List Nat} {kk pb:Nat} (hv:Ivs B w v cs) (hp:w.cell? ⟨pb,0,none⟩=some (.int .i64 (kk:Int))) (hl:cs.length≤64) :
  Calls Tryz.prog 51 #[v,zdE pb] w fun e w'=>∃bc:Bool,e=.returned (.bool bc)∧(bc=true↔∃c∈cs,kk≤c)∧Below w.heap.size w w':=by
 have HI:=hid (indexb13 hv hp hl);obtain ⟨a0,c0,rfl,-,-⟩:=hv.form;clear hv hp;go_enter Tryz.func51,Tryz.ntmps51;go_wp2_with fail;refine HI.out.mono ?_;rintro e w1 ⟨r,rfl,hr,b⟩;have FIN:Hid (∃bc:Bool,Ending.returned (.bool (decide (0≤r)))=.returned (.bool bc)∧(bc=true↔∃c∈cs,kk≤c)∧Below w.heap.size w w1):=⟨_,rfl,by rw [decide_eq_true_eq];exact hr,b⟩
 clear HI hr b;go_wp2;go_ret;exact FIN.out
theorem Stz.one {A:Nat→Nat→Int} {n i:Nat} {rs cs:List Nat} {odd:Bool} (h:Stz A n i rs cs odd) (h0:rs.length=0):detS A rs cs odd=1:=by
 rw [h.core,h0];rfl
theorem zSD {w W:World} {b B:Nat} {x y:Value} {z:Int} {k:Nat} (h:Zm B W (.agg #[x,y]) z k) (hW:Below w.heap.size w W) (hb:w.heap.size≤b) (hB:b<B):zWA w z k (.returned (.agg #[x,y])) ((W.setCell ⟨b,0,none⟩ x).setCell ⟨b,1,none⟩ y):=zDD h hW hb hB
theorem sdet_any {A:Nat→Nat→Int} {B Bs n i kw:Nat} {rs cs ks:List Nat} {odd:Bool} {w:World} (hS:Srs A B w Bs n rs cs odd ks kw) (hZ:Stz A n i rs cs odd) (h1:1≤kw) (hn:n≤64) (hr:rs.length≤64) :
  Calls Tryz.prog 53 #[.pointer (some ⟨Bs,0,none⟩)] w (zWA w (detS A rs cs odd) kw):=by
 obtain ⟨W0,hW⟩:∃W0,w.alloc zbox=W0:=⟨_,rfl⟩
 obtain ⟨b0,sz0⟩:=alo1 w zbox;rw [hW] at b0 sz0;have PR:Hid (Duo W0 w.heap.size (.bool false) (.slice none 0 0)):=by unfold Hid;rw [←hW];exact Duo.new w _ _
 have hS0:=hS;obtain ⟨rv,cv,lv,s1,s2,s3,s4,s5⟩:=hS0.now b0;obtain ⟨ra,rcap,rfl,hrc,-⟩:=s2.form;obtain ⟨ca,ccap,rfl,hcc,hca⟩:=s3.form;obtain ⟨la,lcap,rfl,hlc,hla⟩:=s4.form;have x0:=s1.at (i:=0) rfl;have x1:=s1.at (i:=1) rfl;have x2:=s1.at (i:=2) rfl;have x4:=s1.at (i:=3) rfl;have hlen:=hZ.len;rw [zEB] at hlc hla x2;obtain ⟨Kn,hK⟩:∃Kn,rs.length=Kn:=⟨_,rfl⟩
 rw [hlen] at hcc hca x1;rw [hK] at x0 x1 x2 hrc hcc hlc hca hla hr;have G0:=hid b0;have EW:=hid hW;have SZ:=hid sz0
 by_cases h0:Kn=0
 ·have HOF:=hid (of_z (n:=1) (by decide) (by decide) W0)
  have HD:Hid (detS A rs cs odd=1):=hZ.one (by omega);have H1:=hid h1;subst h0;rw [←hW] at x0;clear s1 s2 s3 s4 s5 hS hS0 hZ x1 x2 x4 hca hla hW b0 sz0 hlen hK h1;go_enter Tryz.func53,Tryz.ntmps53;go_wp2_with fail;rw [EW.out];clear EW x0;refine HOF.out.mono ?_;rintro e w1 ⟨r0,rfl,m0,b⟩;obtain ⟨nr,xr,ar,cr,rfl⟩:=m0.parts;have PR1:=hid (PR.out.step b);have r0:=PR1.out.c0;have r1:=PR1.out.c1;have f0:=PR1.out.fz 0;have f1:=PR1.out.fz 1;have FIN:Hid (zWA w (detS A rs cs odd) kw (.returned (.agg #[.bool nr,.slice ar xr.length cr])) ((w1.setCell ⟨w.heap.size,0,none⟩ (.bool nr)).setCell ⟨w.heap.size,1,none⟩ (.slice ar xr.length cr))):=by
   unfold Hid;rw [HD.out];exact zSD (m0.more H1.out) (zBA G0.out b) (Nat.le_refl _) (by have:=SZ.out;omega)
  clear m0 b HOF;go_wp2_with fail;exact bodyPost_ret (znA Tryz.results53 (PR1.out.set _ _) _ (by rfl)) rfl FIN.out
 ·obtain ⟨last,rfl⟩:∃last,Kn=last+1:=⟨Kn-1,by omega⟩
  obtain ⟨gc,rfl⟩:=hca (by omega);obtain ⟨Lb,rfl,-⟩:=hla (by omega);obtain ⟨cc,hcc2⟩:∃cc,cs.getD last 0=cc:=⟨_,rfl⟩
  have c0:=s3.at (i:=last) (by omega);rw [hcc2] at c0;have hcn:cc<n:=by rw [←hcc2];exact hZ.cl _ (by simp [show last<cs.length by omega])
  have hcn':(cc:Int)<(n:Int):=by omega
  have hks:ks.length=last+1:=by rw [s4.2.2.1,zEB,hK]
  obtain ⟨gk0,hgk0⟩:∃gk0,ks[last]?=some gk0:=⟨ks[last]'(by omega),List.getElem?_eq_getElem _⟩
  have x3:=s4.line hgk0;obtain ⟨np,ap,lp,cp,p0,p1,zp⟩:=s4.at hgk0 hcn;rw [zUI (by omega),zqB hcn] at zp;have EP:Hid (mi A (gd rs) (gd cs) last (gd rs last) cc=dd A (gd rs) (gd cs) (last+1)):=by unfold Hid;rw [←hcc2];exact zyH A (gd rs) (gd cs) last
  have HD:Hid (detS A rs cs odd=sgb odd*dd A (gd rs) (gd cs) (last+1)):=by unfold Hid detS;rw [hK]
  have ZP:=hid zp;have hne:¬((last+1:Nat):Int)=0:=by omega
  have hw1:IntKind.i64.wrap (((last+1:Nat):Int)-1)=(last:Int):=by rw [zaA] <;> omega
  have hll:(last:Int)<((last+1:Nat):Int):=by omega
  have y0:=x0;rw [←hW] at y0;have hLn:((last+1:Nat):Int)=(last:Int)+1:=by omega
  have EL:=hid hLn;clear s1 s2 s3 s4 s5 hS hS0 hZ hla hca hW b0 sz0 hlen hK zp hcc2 hgk0 hks h0 hLn;generalize hKn:last+1=Kn at *;have HKN:=hid hKn;clear hKn;go_enter Tryz.func53,Tryz.ntmps53;go_upto_region 4 with fail
  rw [EW.out];clear EW y0;have KB:Hid (∀w',Below W0.heap.size W0 w'→w'.cell? ⟨Bs,2,none⟩=some (.slice (some ⟨Lb,0,none⟩) Kn lcap)∧w'.cell? ⟨Lb,last,none⟩=some (.slice (some ⟨gk0,0,none⟩) n n)∧w'.cell? ⟨Bs,1,none⟩=some (.slice (some ⟨gc,0,none⟩) Kn ccap)∧w'.cell? ⟨gc,last,none⟩=some (.int .i64 (cc:Int))∧w'.cell? ⟨gk0,cc*2,none⟩=some (.bool np)∧w'.cell? ⟨gk0,cc*2+1,none⟩=some (.slice ap lp cp)):=fun w' h=>⟨cnow h x2,cnow h x3,cnow h x1,cnow h c0,cnow h p0,cnow h p1⟩
  refine zDA (fun w'=>w'.cell? ⟨Bs,2,none⟩=some (.slice (some ⟨Lb,0,none⟩) Kn lcap)∧w'.cell? ⟨Lb,last,none⟩=some (.slice (some ⟨gk0,0,none⟩) n n)∧w'.cell? ⟨Bs,1,none⟩=some (.slice (some ⟨gc,0,none⟩) Kn ccap)∧w'.cell? ⟨gc,last,none⟩=some (.int .i64 (cc:Int))∧w'.cell? ⟨gk0,cc*2,none⟩=some (.bool np)∧w'.cell? ⟨gk0,cc*2+1,none⟩=some (.slice ap lp cp)) 17 (by kernel_rfl) ?_;obtain ⟨D1,hD⟩:∃D1,W0.drew=D1:=⟨_,rfl⟩
  have GB:Hid (Below W0.heap.size W0 D1):=by unfold Hid;rw [←hD];exact (Below.refl _ _).drew
  rw [hD];clear hD;have GZ:Hid (W0.heap.size≤D1.heap.size):=GB.out.size;refine zAA (i:=0) (oi:=⟨some 18,.move (.tmp 0),76, "stairs.go:66",#[],none⟩) (v:=(.pointer (some ⟨Bs,0,none⟩))) rfl (by kernel_rfl) (fun _ _ _ h=>h) (Or.inl ⟨by rfl,?_⟩) (KB.out _ GB.out) ?_
  ·intro w hSw;(try dsimp only at hSw);go_simp
  simp only [Act.put,sIb,sC0,sC1];refine zAA (i:=1) (oi:=⟨some 19,.nilCheck (.tmp 18),0, "stairs.go:66",#[⟨0,.data⟩],none⟩) (v:=(.pointer (some ⟨Bs,0,none⟩))) rfl (by kernel_rfl) (fun _ _ _ h=>h) (Or.inl ⟨by rfl,?_⟩) (KB.out _ GB.out) ?_
  ·intro w hSw;(try dsimp only at hSw);go_simp
  simp only [Act.put,sIb,sC0,sC1];refine zAA (i:=2) (oi:=⟨some 20,.fieldAddr 50 (.tmp 19) 2,0, "stairs.go:66",#[⟨1,.data⟩],none⟩) (v:=(.pointer (some ⟨Bs,2,none⟩))) rfl (by kernel_rfl) (fun _ _ _ h=>h) (Or.inl ⟨by rfl,?_⟩) (KB.out _ GB.out) ?_
  ·intro w hSw;(try dsimp only at hSw);go_simp
  simp only [Act.put,sIb,sC0,sC1];refine zAA (i:=3) (oi:=⟨some 21,.load 48 (.tmp 20),48, "stairs.go:66",#[⟨2,.data⟩],none⟩) (v:=(.slice (some ⟨Lb,0,none⟩) Kn lcap)) rfl (by kernel_rfl) (fun _ _ _ h=>h) (Or.inl ⟨by rfl,?_⟩) (KB.out _ GB.out) ?_
  ·intro w hSw;(try dsimp only at hSw);go_simp
  simp only [Act.put,sIb,sC0,sC1];refine zAA (i:=4) (oi:=⟨some 22,.move (.tmp 3),3, "stairs.go:66",#[],none⟩) (v:=(.int .i64 (last:Int))) rfl (by kernel_rfl) (fun _ _ _ h=>h) (Or.inl ⟨by rfl,?_⟩) (KB.out _ GB.out) ?_
  ·intro w hSw;(try dsimp only at hSw);go_simp
  simp only [Act.put,sIb,sC0,sC1];refine zAA (i:=5) (oi:=⟨some 23,.indexAddr 48 (.tmp 21) (.tmp 22),0, "stairs.go:66",#[⟨3,.data⟩,⟨4,.data⟩],none⟩) (v:=(.pointer (some ⟨Lb,last,none⟩))) rfl (by kernel_rfl) (fun _ _ _ h=>h) (Or.inl ⟨by rfl,?_⟩) (KB.out _ GB.out) ?_
  ·intro w hSw;(try dsimp only at hSw);go_simp
  simp only [Act.put,sIb,sC0,sC1];refine zAA (i:=6) (oi:=⟨some 24,.load 22 (.tmp 23),22, "stairs.go:66",#[⟨5,.data⟩],none⟩) (v:=(.slice (some ⟨gk0,0,none⟩) n n)) rfl (by kernel_rfl) (fun _ _ _ h=>h) (Or.inl ⟨by rfl,?_⟩) (KB.out _ GB.out) ?_
  ·intro w hSw;(try dsimp only at hSw);go_simp
  simp only [Act.put,sIb,sC0,sC1];refine zAA (i:=7) (oi:=⟨some 25,.move (.tmp 0),76, "stairs.go:66",#[],none⟩) (v:=(.pointer (some ⟨Bs,0,none⟩))) rfl (by kernel_rfl) (fun _ _ _ h=>h) (Or.inl ⟨by rfl,?_⟩) (KB.out _ GB.out) ?_
  ·intro w hSw;(try dsimp only at hSw);go_simp
  simp only [Act.put,sIb,sC0,sC1];refine zAA (i:=8) (oi:=⟨some 26,.nilCheck (.tmp 25),0, "stairs.go:66",#[⟨7,.data⟩],none⟩) (v:=(.pointer (some ⟨Bs,0,none⟩))) rfl (by kernel_rfl) (fun _ _ _ h=>h) (Or.inl ⟨by rfl,?_⟩) (KB.out _ GB.out) ?_
  ·intro w hSw;(try dsimp only at hSw);go_simp
  simp only [Act.put,sIb,sC0,sC1];refine zAA (i:=9) (oi:=⟨some 27,.fieldAddr 50 (.tmp 26) 1,0, "stairs.go:66",#[⟨8,.data⟩],none⟩) (v:=(.pointer (some ⟨Bs,1,none⟩))) rfl (by kernel_rfl) (fun _ _ _ h=>h) (Or.inl ⟨by rfl,?_⟩) (KB.out _ GB.out) ?_
  ·intro w hSw;(try dsimp only at hSw);go_simp
  simp only [Act.put,sIb,sC0,sC1];refine zAA (i:=10) (oi:=⟨some 28,.load 47 (.tmp 27),47, "stairs.go:66",#[⟨9,.data⟩],none⟩) (v:=(.slice (some ⟨gc,0,none⟩) Kn ccap)) rfl (by kernel_rfl) (fun _ _ _ h=>h) (Or.inl ⟨by rfl,?_⟩) (KB.out _ GB.out) ?_
  ·intro w hSw;(try dsimp only at hSw);go_simp
  simp only [Act.put,sIb,sC0,sC1];refine zAA (i:=11) (oi:=⟨some 29,.move (.tmp 3),3, "stairs.go:66",#[],none⟩) (v:=(.int .i64 (last:Int))) rfl (by kernel_rfl) (fun _ _ _ h=>h) (Or.inl ⟨by rfl,?_⟩) (KB.out _ GB.out) ?_
  ·intro w hSw;(try dsimp only at hSw);go_simp
  simp only [Act.put,sIb,sC0,sC1];refine zAA (i:=12) (oi:=⟨some 30,.indexAddr 47 (.tmp 28) (.tmp 29),0, "stairs.go:66",#[⟨10,.data⟩,⟨11,.data⟩],none⟩) (v:=(.pointer (some ⟨gc,last,none⟩))) rfl (by kernel_rfl) (fun _ _ _ h=>h) (Or.inl ⟨by rfl,?_⟩) (KB.out _ GB.out) ?_
  ·intro w hSw;(try dsimp only at hSw);go_simp
  simp only [Act.put,sIb,sC0,sC1];refine zAA (i:=13) (oi:=⟨some 31,.load 3 (.tmp 30),3, "stairs.go:66",#[⟨12,.data⟩],none⟩) (v:=(.int .i64 (cc:Int))) rfl (by kernel_rfl) (fun _ _ _ h=>h) (Or.inl ⟨by rfl,?_⟩) (KB.out _ GB.out) ?_
  ·intro w hSw;(try dsimp only at hSw);go_simp
  simp only [Act.put,sIb,sC0,sC1];refine zAA (i:=14) (oi:=⟨some 32,.indexAddr 22 (.tmp 24) (.tmp 31),0, "stairs.go:66",#[⟨6,.data⟩,⟨13,.data⟩],none⟩) (v:=(.pointer (some ⟨gk0,cc*2,none⟩))) rfl (by kernel_rfl) (fun _ _ _ h=>h) (Or.inl ⟨by rfl,?_⟩) (KB.out _ GB.out) ?_
  ·intro w hSw;(try dsimp only at hSw);go_simp
  simp only [Act.put,sIb,sC0,sC1];refine zAA (i:=15) (oi:=⟨some 33,.load 39 (.tmp 32),39, "stairs.go:66",#[⟨14,.data⟩],none⟩) (v:=(.agg #[.bool np,.slice ap lp cp])) rfl (by kernel_rfl) (fun _ _ _ h=>h) (Or.inl ⟨by rfl,?_⟩) (KB.out _ GB.out) ?_
  ·intro w hSw;(try dsimp only at hSw);go_simp
  simp only [Act.put,sIb,sC0,sC1];refine zCA (i:=16) (o:=⟨some 4,.alloc 39,0, "stairs.go:66",#[],none⟩) (by kernel_rfl) rfl (fun K hK=>?_);go_simp;obtain ⟨V2,hW⟩:∃V2,D1.alloc zbox=V2:=⟨_,rfl⟩
  obtain ⟨b,sz2⟩:=alo1 D1 zbox;rw [hW] at b sz2;replace GB:=hid (zBA GB.out b);have DP:Hid (Duo V2 D1.heap.size (.bool false) (.slice none 0 0)):=by unfold Hid;rw [←hW];exact Duo.new D1 _ _
  clear sz2;rw [hW];clear hW b;refine hK.out _ _ (fun _=>KB.out _ GB.out) ?_;clear hK
  try simp only [Act.put]
  refine zCA (i:=17) (o:=⟨none,.store 39 (.tmp 4) (.tmp 33),0, "stairs.go:66",#[⟨16,.data⟩,⟨15,.data⟩,⟨0,.phase⟩,⟨1,.phase⟩,⟨2,.phase⟩,⟨3,.phase⟩,⟨4,.phase⟩,⟨5,.phase⟩,⟨6,.phase⟩,⟨7,.phase⟩,⟨8,.phase⟩,⟨9,.phase⟩,⟨10,.phase⟩,⟨11,.phase⟩,⟨12,.phase⟩,⟨13,.phase⟩,⟨14,.phase⟩,⟨15,.phase⟩,⟨16,.phase⟩],none⟩) (by kernel_rfl) rfl (fun K hK=>?_);have e0:=DP.out.c0;have e1:=DP.out.c1;have e2:=DP.out.fz 0;have e3:=DP.out.fz 1;have SP:Hid (W0.heap.size≤D1.heap.size):=GZ.out;go_simp;clear e0 e1 e2 e3;obtain ⟨V3,hW⟩:∃V3,((V2.setCell ⟨D1.heap.size,0,none⟩ (.bool np)).setCell ⟨D1.heap.size,1,none⟩ (.slice ap lp cp))=V3:=⟨_,rfl⟩
  replace GB:Hid (Below W0.heap.size W0 V3):=by unfold Hid;rw [←hW];exact bset (bset GB.out SP.out) SP.out
  have QP:Hid (Duo V3 D1.heap.size (.bool np) (.slice ap lp cp)):=by unfold Hid;rw [←hW];exact DP.out.set _ _
  clear DP;rw [hW];clear hW;refine hK.out _ _ (fun h=>absurd h (by decide)) ?_;clear hK
  try simp only [Act.put]
  refine zFA (by kernel_rfl) ?_ _;obtain ⟨V,hVV⟩:∃V,V=V3:=⟨_,rfl⟩
  rw [←hVV] at GB QP ⊢;clear hVV;have PR1:=hid (PR.out.step GB.out);have ZP1:=hid (ZP.out.now GB.out);have G1:=hid (zBA G0.out GB.out);have q4:=cnow GB.out x4;have q0:=QP.out.c0;have q1:=QP.out.c1;have SZ1:Hid (w.heap.size<V.heap.size):=by unfold Hid;have:=SZ.out;have:=GB.out.size;omega
  clear GB KB QP GZ SP x0 x1 x2 x3 x4 c0 p0 p1 ZP;cases odd with
  | true =>
   have HN:=hid (zkI ZP1.out.zi);go_wp2_with fail;refine HN.out.mono ?_;rintro e w1 ⟨r0,rfl,m0,b⟩;obtain ⟨nr,xr,ar,cr,rfl⟩:=m0.parts;have PR2:=hid (PR1.out.step b);have r0:=PR2.out.c0;have r1:=PR2.out.c1;have f0:=PR2.out.fz 0;have f1:=PR2.out.fz 1;have FIN:Hid (zWA w (detS A rs cs true) kw (.returned (.agg #[.bool nr,.slice ar xr.length cr])) ((w1.setCell ⟨w.heap.size,0,none⟩ (.bool nr)).setCell ⟨w.heap.size,1,none⟩ (.slice ar xr.length cr))):=by
    unfold Hid;rw [HD.out,←EP.out];have e:sgb true*mi A (gd rs) (gd cs) last (gd rs last) cc = - mi A (gd rs) (gd cs) last (gd rs last) cc:=by simp [sgb]
    rw [e];exact zSD m0 (zBA G1.out b) (Nat.le_refl _) SZ1.out
   clear m0 b HN;go_wp2_with fail;exact bodyPost_ret (znA Tryz.results53 (PR2.out.set _ _) _ (by rfl)) rfl FIN.out
  | false =>
   have HN:=hid (zQC ZP1.out.zi);go_wp2_with fail;refine HN.out.mono ?_;rintro e w1 ⟨r0,rfl,m0,b⟩;obtain ⟨nr,xr,ar,cr,rfl⟩:=m0.parts;have PR2:=hid (PR1.out.step b);have r0:=PR2.out.c0;have r1:=PR2.out.c1;have f0:=PR2.out.fz 0;have f1:=PR2.out.fz 1;have FIN:Hid (zWA w (detS A rs cs false) kw (.returned (.agg #[.bool nr,.slice ar xr.length cr])) ((w1.setCell ⟨w.heap.size,0,none⟩ (.bool nr)).setCell ⟨w.heap.size,1,none⟩ (.slice ar xr.length cr))):=by
    unfold Hid;rw [HD.out,←EP.out];have e:sgb false*mi A (gd rs) (gd cs) last (gd rs last) cc=mi A (gd rs) (gd cs) last (gd rs last) cc:=by simp [sgb]
    rw [e];exact zSD m0 (zBA G1.out b) (Nat.le_refl _) SZ1.out
   clear m0 b HN;go_wp2_with fail;exact bodyPost_ret (znA Tryz.results53 (PR2.out.set _ _) _ (by rfl)) rfl FIN.out
def zYE (A:Nat→Nat→Int) (rs cs:List Nat) (odd:Bool) (kk:Nat):Int:=if rs.length<kk∨∃c∈cs,kk≤c then 0 else detS A rs cs odd
theorem ziD {A:Nat→Nat→Int} {B Bs n i kw kk:Nat} {rs cs ks:List Nat} {odd:Bool} {w:World} (hS:Srs A B w Bs n rs cs odd ks kw) (hZ:Stz A n i rs cs odd) (h1:1≤kw) (hn:n≤64) (hr:rs.length≤64) (hkk:kk≤1000000) :
  Calls Tryz.prog 28 #[.pointer (some ⟨Bs,0,none⟩),.int .i64 (kk:Int)] w (zWA w (zYE A rs cs odd kk) kw):=by
 obtain ⟨W0,hW⟩:∃W0,(w.alloc (.cells #[.int .i64 (kk:Int)] 3)).alloc zbox=W0:=⟨_,rfl⟩
 obtain ⟨b0,sz0⟩:=zjA w (.cells #[.int .i64 (kk:Int)] 3) zbox;rw [hW] at b0 sz0;have PR:Hid (Duo W0 (w.heap.size+1) (.bool false) (.slice none 0 0)):=by
  unfold Hid;rw [←hW];have:=Duo.new (w.alloc (.cells #[.int .i64 (kk:Int)] 3)) (.bool false) (.slice none 0 0)
  simpa using this
 have k0:W0.cell? ⟨w.heap.size,0,none⟩=some (.int .i64 (kk:Int)):=by
  rw [←hW];exact ((Cel.new w 3 [.int .i64 (kk:Int)]).step ((Below.refl _ _).alloc (Nat.le_refl _) _)).at (i:=0) rfl
 have S0:=hid (hS.now b0);have HZ:=hid hZ;obtain ⟨rv,cv,lv,s1,s2,s3,s4,s5⟩:=S0.out;obtain ⟨ra,rcap,rfl,hrc,-⟩:=s2.form;obtain ⟨ca,ccap,rfl,hcc,-⟩:=s3.form;have x0:=s1.at (i:=0) rfl;have x1:=s1.at (i:=1) rfl;have hlen:=hZ.len;have HCT:Hid (∀w',Below W0.heap.size W0 w'→Calls Tryz.prog 51 #[.slice ca cs.length ccap,zdE w.heap.size] w' fun e w''=>∃bc:Bool,e=.returned (.bool bc)∧(bc=true↔∃c∈cs,kk≤c)∧Below w'.heap.size w' w''):=fun w' b=>containsb13 (s3.now b) (cnow b k0) (by omega)
 obtain ⟨Kn,hK⟩:∃Kn,rs.length=Kn:=⟨_,rfl⟩
 rw [hlen] at hcc x1 HCT;rw [hK] at x0 x1 hrc hcc hr HCT;have G0:=hid b0;have EW:=hid hW;have SZ:=hid sz0;have HK:=hid hK;have HN64:=hid hn;have H1:=hid h1;have HR64:=hid hr;clear s1 s2 s3 s4 s5 hS hZ hW b0 sz0 hlen hK h1 hn
 by_cases hfew:Kn<kk
 ·have hfew':(Kn:Int)<(kk:Int):=by omega
  have HE:Hid (zYE A rs cs odd kk=0):=if_pos (.inl (by rw [HK.out];exact hfew));go_enter Tryz.func28,Tryz.ntmps28;go_upto_region 1 with fail
  rw [EW.out];clear EW;have KB:Hid (∀w',Below W0.heap.size W0 w'→w'.cell? ⟨Bs,0,none⟩=some (.slice ra Kn rcap)∧w'.cell? ⟨w.heap.size,0,none⟩=some (.int .i64 (kk:Int))):=fun w' h=>⟨cnow h x0,cnow h k0⟩
  refine zDA (fun w'=>w'.cell? ⟨Bs,0,none⟩=some (.slice ra Kn rcap)∧w'.cell? ⟨w.heap.size,0,none⟩=some (.int .i64 (kk:Int))) 14 (by kernel_rfl) ?_;obtain ⟨D21,hD⟩:∃D21,W0.drew=D21:=⟨_,rfl⟩
  have GB:Hid (Below W0.heap.size W0 D21):=by unfold Hid;rw [←hD];exact (Below.refl _ _).drew
  rw [hD];clear hD;refine zAA (i:=0) (oi:=⟨some 5,.move (.tmp 0),76, "stairs.go:77",#[],none⟩) (v:=(.pointer (some ⟨Bs,0,none⟩))) rfl (by kernel_rfl) (fun _ _ _ h=>h) (Or.inl ⟨by rfl,?_⟩) (KB.out _ GB.out) ?_
  ·intro w hSw;(try dsimp only at hSw);go_simp
  simp only [Act.put,sIb,sC0,sC1];refine zAA (i:=1) (oi:=⟨some 6,.nilCheck (.tmp 5),0, "stairs.go:77",#[⟨0,.data⟩],none⟩) (v:=(.pointer (some ⟨Bs,0,none⟩))) rfl (by kernel_rfl) (fun _ _ _ h=>h) (Or.inl ⟨by rfl,?_⟩) (KB.out _ GB.out) ?_
  ·intro w hSw;(try dsimp only at hSw);go_simp
  simp only [Act.put,sIb,sC0,sC1];refine zAA (i:=2) (oi:=⟨some 7,.fieldAddr 50 (.tmp 6) 0,0, "stairs.go:77",#[⟨1,.data⟩],none⟩) (v:=(.pointer (some ⟨Bs,0,none⟩))) rfl (by kernel_rfl) (fun _ _ _ h=>h) (Or.inl ⟨by rfl,?_⟩) (KB.out _ GB.out) ?_
  ·intro w hSw;(try dsimp only at hSw);go_simp
  simp only [Act.put,sIb,sC0,sC1];refine zAA (i:=3) (oi:=⟨some 8,.load 47 (.tmp 7),47, "stairs.go:77",#[⟨2,.data⟩],none⟩) (v:=(.slice ra Kn rcap)) rfl (by kernel_rfl) (fun _ _ _ h=>h) (Or.inl ⟨by rfl,?_⟩) (KB.out _ GB.out) ?_
  ·intro w hSw;(try dsimp only at hSw);go_simp
  simp only [Act.put,sIb,sC0,sC1];refine zAA (i:=4) (oi:=⟨some 9,.call { callee:=.builtin .len,args:=#[.tmp 8],argTypes:=#[47] },3, "stairs.go:77",#[⟨3,.data⟩],none⟩) (v:=(.int .i64 (Kn:Int))) rfl (by kernel_rfl) (fun _ _ _ h=>h) (Or.inl ⟨by rfl,?_⟩) (KB.out _ GB.out) ?_
  ·intro w hSw;(try dsimp only at hSw);go_simp
  simp only [Act.put,sIb,sC0,sC1];refine zAA (i:=5) (oi:=⟨some 10,.load 3 (.tmp 3),3, "stairs.go:77",#[],none⟩) (v:=(.int .i64 (kk:Int))) rfl (by kernel_rfl) (fun _ _ _ h=>h) (Or.inl ⟨by rfl,?_⟩) (KB.out _ GB.out) ?_
  ·intro w hSw;(try dsimp only at hSw);go_simp
  simp only [Act.put,sIb,sC0,sC1];refine zAA (i:=6) (oi:=⟨some 11,.binOp .lss 3 (.tmp 9) (.tmp 10) 3,4, "stairs.go:77",#[⟨4,.data⟩,⟨5,.data⟩],none⟩) (v:=(.bool true)) rfl (by kernel_rfl) (fun _ _ _ h=>h) (Or.inl ⟨by rfl,?_⟩) (KB.out _ GB.out) ?_
  ·intro w hSw;(try dsimp only at hSw);go_simp
  simp only [Act.put,sIb,sC0,sC1];refine zAA (i:=7) (oi:=⟨some 12,.move (.tmp 11),4, "stairs.go:77",#[⟨6,.data⟩],none⟩) (v:=(.bool true)) rfl (by kernel_rfl) (fun _ _ _ h=>h) (Or.inl ⟨by rfl,?_⟩) (KB.out _ GB.out) ?_
  ·intro w hSw;(try dsimp only at hSw);go_simp
  simp only [Act.put,sIb,sC0,sC1];refine zAA (i:=8) (oi:=⟨some 13,.move (.tmp 0),76, "stairs.go:77",#[⟨7,.guard⟩],some (7,false)⟩) (v:=undef) rfl (by kernel_rfl) (fun _ _ _ h=>h) (Or.inr ⟨by rfl,rfl⟩) (KB.out _ GB.out) ?_;simp only [Act.put,sIb,sC0,sC1];refine zAA (i:=9) (oi:=⟨some 14,.nilCheck (.tmp 13),0, "stairs.go:77",#[⟨8,.data⟩,⟨7,.guard⟩],some (7,false)⟩) (v:=undef) rfl (by kernel_rfl) (fun _ _ _ h=>h) (Or.inr ⟨by rfl,rfl⟩) (KB.out _ GB.out) ?_;simp only [Act.put,sIb,sC0,sC1];refine zAA (i:=10) (oi:=⟨some 15,.fieldAddr 50 (.tmp 14) 1,0, "stairs.go:77",#[⟨9,.data⟩,⟨7,.guard⟩],some (7,false)⟩) (v:=undef) rfl (by kernel_rfl) (fun _ _ _ h=>h) (Or.inr ⟨by rfl,rfl⟩) (KB.out _ GB.out) ?_;simp only [Act.put,sIb,sC0,sC1];refine zAA (i:=11) (oi:=⟨some 16,.load 47 (.tmp 15),47, "stairs.go:77",#[⟨10,.data⟩,⟨7,.guard⟩],some (7,false)⟩) (v:=undef) rfl (by kernel_rfl) (fun _ _ _ h=>h) (Or.inr ⟨by rfl,rfl⟩) (KB.out _ GB.out) ?_;simp only [Act.put,sIb,sC0,sC1];refine zAA (i:=12) (oi:=⟨some 17,.makeFunc (.func 52) #[] #[.tmp 3],81, "stairs.go:77",#[⟨7,.guard⟩],some (7,false)⟩) (v:=undef) rfl (by kernel_rfl) (fun _ _ _ h=>h) (Or.inr ⟨by rfl,rfl⟩) (KB.out _ GB.out) ?_;simp only [Act.put,sIb,sC0,sC1];refine zAA (i:=13) (oi:=⟨some 18,.call { callee:=.value (.func 51),args:=#[.tmp 16,.tmp 17],argTypes:=#[47,81] },4, "stairs.go:77",#[⟨11,.data⟩,⟨12,.data⟩,⟨7,.chain⟩,⟨7,.guard⟩],some (7,false)⟩) (v:=undef) rfl (by kernel_rfl) (fun _ _ _ h=>h) (Or.inr ⟨by rfl,rfl⟩) (KB.out _ GB.out) ?_;simp only [Act.put,sIb,sC0,sC1];refine zCA (i:=14) (o:=⟨some 19,.pick (.tmp 12) (.const (.bool true)) (.tmp 18),4, "stairs.go:77",#[⟨7,.data⟩,⟨13,.data⟩],none⟩) (by kernel_rfl) rfl (fun K hK=>?_);go_simp;refine hK.out _ _ (fun h=>absurd h (by decide)) ?_;clear hK
  try simp only [Act.put]
  refine zFA (by kernel_rfl) ?_ _;have GW:=hid GB.out;clear KB;obtain ⟨V,hVV⟩:∃V,V=D21:=⟨_,rfl⟩
  rw [←hVV] at GW ⊢;clear hVV GB;have PR1:=hid (PR.out.step GW.out);have r0:=PR1.out.c0;have r1:=PR1.out.c1;have f0:=PR1.out.fz 0;have f1:=PR1.out.fz 1;have FIN:Hid (zWA w (zYE A rs cs odd kk) kw (.returned (.agg #[.bool false,.slice none 0 0])) ((V.setCell ⟨w.heap.size+1,0,none⟩ (.bool false)).setCell ⟨w.heap.size+1,1,none⟩ (.slice none 0 0))):=by
   unfold Hid;rw [HE.out];exact zSD (B:=w.heap.size+2) (zmG _ _ _) (zBA G0.out GW.out) (by omega) (by omega)
  clear HCT HE GW x0 x1 k0 S0 HZ;go_wp2_with fail;exact bodyPost_ret (znA Tryz.results28 (PR1.out.set _ _) _ (by rfl)) rfl FIN.out
 ·have hfew':¬(Kn:Int)<(kk:Int):=by omega
  go_enter Tryz.func28,Tryz.ntmps28;go_upto_region 1 with fail
  rw [EW.out];clear EW;have KB:Hid (∀w',Below W0.heap.size W0 w'→w'.cell? ⟨Bs,0,none⟩=some (.slice ra Kn rcap)∧w'.cell? ⟨w.heap.size,0,none⟩=some (.int .i64 (kk:Int))∧w'.cell? ⟨Bs,1,none⟩=some (.slice ca Kn ccap)):=fun w' h=>⟨cnow h x0,cnow h k0,cnow h x1⟩
  refine zDA (fun w'=>w'.cell? ⟨Bs,0,none⟩=some (.slice ra Kn rcap)∧w'.cell? ⟨w.heap.size,0,none⟩=some (.int .i64 (kk:Int))∧w'.cell? ⟨Bs,1,none⟩=some (.slice ca Kn ccap)) 14 (by kernel_rfl) ?_;obtain ⟨D21,hD⟩:∃D21,W0.drew=D21:=⟨_,rfl⟩
  have GB:Hid (Below W0.heap.size W0 D21):=by unfold Hid;rw [←hD];exact (Below.refl _ _).drew
  rw [hD];clear hD;refine zAA (i:=0) (oi:=⟨some 5,.move (.tmp 0),76, "stairs.go:77",#[],none⟩) (v:=(.pointer (some ⟨Bs,0,none⟩))) rfl (by kernel_rfl) (fun _ _ _ h=>h) (Or.inl ⟨by rfl,?_⟩) (KB.out _ GB.out) ?_
  ·intro w hSw;(try dsimp only at hSw);go_simp
  simp only [Act.put,sIb,sC0,sC1];refine zAA (i:=1) (oi:=⟨some 6,.nilCheck (.tmp 5),0, "stairs.go:77",#[⟨0,.data⟩],none⟩) (v:=(.pointer (some ⟨Bs,0,none⟩))) rfl (by kernel_rfl) (fun _ _ _ h=>h) (Or.inl ⟨by rfl,?_⟩) (KB.out _ GB.out) ?_
  ·intro w hSw;(try dsimp only at hSw);go_simp
  simp only [Act.put,sIb,sC0,sC1];refine zAA (i:=2) (oi:=⟨some 7,.fieldAddr 50 (.tmp 6) 0,0, "stairs.go:77",#[⟨1,.data⟩],none⟩) (v:=(.pointer (some ⟨Bs,0,none⟩))) rfl (by kernel_rfl) (fun _ _ _ h=>h) (Or.inl ⟨by rfl,?_⟩) (KB.out _ GB.out) ?_
  ·intro w hSw;(try dsimp only at hSw);go_simp
  simp only [Act.put,sIb,sC0,sC1];refine zAA (i:=3) (oi:=⟨some 8,.load 47 (.tmp 7),47, "stairs.go:77",#[⟨2,.data⟩],none⟩) (v:=(.slice ra Kn rcap)) rfl (by kernel_rfl) (fun _ _ _ h=>h) (Or.inl ⟨by rfl,?_⟩) (KB.out _ GB.out) ?_
  ·intro w hSw;(try dsimp only at hSw);go_simp
  simp only [Act.put,sIb,sC0,sC1];refine zAA (i:=4) (oi:=⟨some 9,.call { callee:=.builtin .len,args:=#[.tmp 8],argTypes:=#[47] },3, "stairs.go:77",#[⟨3,.data⟩],none⟩) (v:=(.int .i64 (Kn:Int))) rfl (by kernel_rfl) (fun _ _ _ h=>h) (Or.inl ⟨by rfl,?_⟩) (KB.out _ GB.out) ?_
  ·intro w hSw;(try dsimp only at hSw);go_simp
  simp only [Act.put,sIb,sC0,sC1];refine zAA (i:=5) (oi:=⟨some 10,.load 3 (.tmp 3),3, "stairs.go:77",#[],none⟩) (v:=(.int .i64 (kk:Int))) rfl (by kernel_rfl) (fun _ _ _ h=>h) (Or.inl ⟨by rfl,?_⟩) (KB.out _ GB.out) ?_
  ·intro w hSw;(try dsimp only at hSw);go_simp
  simp only [Act.put,sIb,sC0,sC1];refine zAA (i:=6) (oi:=⟨some 11,.binOp .lss 3 (.tmp 9) (.tmp 10) 3,4, "stairs.go:77",#[⟨4,.data⟩,⟨5,.data⟩],none⟩) (v:=(.bool false)) rfl (by kernel_rfl) (fun _ _ _ h=>h) (Or.inl ⟨by rfl,?_⟩) (KB.out _ GB.out) ?_
  ·intro w hSw;(try dsimp only at hSw);go_simp
  simp only [Act.put,sIb,sC0,sC1];refine zAA (i:=7) (oi:=⟨some 12,.move (.tmp 11),4, "stairs.go:77",#[⟨6,.data⟩],none⟩) (v:=(.bool false)) rfl (by kernel_rfl) (fun _ _ _ h=>h) (Or.inl ⟨by rfl,?_⟩) (KB.out _ GB.out) ?_
  ·intro w hSw;(try dsimp only at hSw);go_simp
  simp only [Act.put,sIb,sC0,sC1];refine zAA (i:=8) (oi:=⟨some 13,.move (.tmp 0),76, "stairs.go:77",#[⟨7,.guard⟩],some (7,false)⟩) (v:=(.pointer (some ⟨Bs,0,none⟩))) rfl (by kernel_rfl) (fun _ _ _ h=>h) (Or.inl ⟨by rfl,?_⟩) (KB.out _ GB.out) ?_
  ·intro w hSw;(try dsimp only at hSw);go_simp
  simp only [Act.put,sIb,sC0,sC1];refine zAA (i:=9) (oi:=⟨some 14,.nilCheck (.tmp 13),0, "stairs.go:77",#[⟨8,.data⟩,⟨7,.guard⟩],some (7,false)⟩) (v:=(.pointer (some ⟨Bs,0,none⟩))) rfl (by kernel_rfl) (fun _ _ _ h=>h) (Or.inl ⟨by rfl,?_⟩) (KB.out _ GB.out) ?_
  ·intro w hSw;(try dsimp only at hSw);go_simp
  simp only [Act.put,sIb,sC0,sC1];refine zAA (i:=10) (oi:=⟨some 15,.fieldAddr 50 (.tmp 14) 1,0, "stairs.go:77",#[⟨9,.data⟩,⟨7,.guard⟩],some (7,false)⟩) (v:=(.pointer (some ⟨Bs,1,none⟩))) rfl (by kernel_rfl) (fun _ _ _ h=>h) (Or.inl ⟨by rfl,?_⟩) (KB.out _ GB.out) ?_
  ·intro w hSw;(try dsimp only at hSw);go_simp
  simp only [Act.put,sIb,sC0,sC1];refine zAA (i:=11) (oi:=⟨some 16,.load 47 (.tmp 15),47, "stairs.go:77",#[⟨10,.data⟩,⟨7,.guard⟩],some (7,false)⟩) (v:=(.slice ca Kn ccap)) rfl (by kernel_rfl) (fun _ _ _ h=>h) (Or.inl ⟨by rfl,?_⟩) (KB.out _ GB.out) ?_
  ·intro w hSw;(try dsimp only at hSw);go_simp
  simp only [Act.put,sIb,sC0,sC1];refine zAA (i:=12) (oi:=⟨some 17,.makeFunc (.func 52) #[] #[.tmp 3],81, "stairs.go:77",#[⟨7,.guard⟩],some (7,false)⟩) (v:=(zdE w.heap.size)) rfl (by kernel_rfl) (fun _ _ _ h=>h) (Or.inl ⟨by rfl,?_⟩) (KB.out _ GB.out) ?_
  ·intro w hSw;(try dsimp only at hSw);go_simp
  simp only [Act.put,sIb,sC0,sC1];refine zCA (i:=13) (o:=⟨some 18,.call { callee:=.value (.func 51),args:=#[.tmp 16,.tmp 17],argTypes:=#[47,81] },4, "stairs.go:77",#[⟨11,.data⟩,⟨12,.data⟩,⟨7,.chain⟩,⟨7,.guard⟩],some (7,false)⟩) (by kernel_rfl) rfl (fun K hK=>?_);go_simp;go_at_call 51;refine (HCT.out _ GB.out).mono ?_;rintro e w22 ⟨bc,rfl,hbc,b⟩;have lz22:=(show Below _ _ _ from b).size;replace GB:=hid (zBA GB.out b);have HBC:=hid hbc;clear hbc;clear b;refine hK.out _ _ (fun _=>KB.out _ GB.out) ?_;clear hK;refine zCA (i:=14) (o:=⟨some 19,.pick (.tmp 12) (.const (.bool true)) (.tmp 18),4, "stairs.go:77",#[⟨7,.data⟩,⟨13,.data⟩],none⟩) (by kernel_rfl) rfl (fun K hK=>?_);go_simp;refine hK.out _ _ (fun h=>absurd h (by decide)) ?_;clear hK
  try simp only [Act.put]
  refine zFA (by kernel_rfl) ?_ _;have GW:=hid GB.out;clear KB;obtain ⟨V,hVV⟩:∃V,V=w22:=⟨_,rfl⟩
  rw [←hVV] at GW ⊢;clear hVV GB;have PR1:=hid (PR.out.step GW.out);cases bc with
  | true =>
   have HE:Hid (zYE A rs cs odd kk=0):=if_pos (.inr (HBC.out.1 rfl));have r0:=PR1.out.c0;have r1:=PR1.out.c1;have f0:=PR1.out.fz 0;have f1:=PR1.out.fz 1;have FIN:Hid (zWA w (zYE A rs cs odd kk) kw (.returned (.agg #[.bool false,.slice none 0 0])) ((V.setCell ⟨w.heap.size+1,0,none⟩ (.bool false)).setCell ⟨w.heap.size+1,1,none⟩ (.slice none 0 0))):=by
    unfold Hid;rw [HE.out];exact zSD (B:=w.heap.size+2) (zmG _ _ _) (zBA G0.out GW.out) (by omega) (by omega)
   clear HCT HE GW x0 x1 k0 S0 HZ HBC;go_wp2_with fail;exact bodyPost_ret (znA Tryz.results28 (PR1.out.set _ _) _ (by rfl)) rfl FIN.out
  | false =>
   have HE:Hid (zYE A rs cs odd kk=detS A rs cs odd):=if_neg (fun q=>by
    rcases q with q | q
    ·rw [HK.out] at q;exact hfew q
    ·exact absurd (HBC.out.2 q) (by simp))
   have HDT:=hid (sdet_any (S0.out.now GW.out) HZ.out H1.out HN64.out (by rw [HK.out];exact HR64.out));have G1:=hid (zBA G0.out GW.out);have SZ1:Hid (w.heap.size+1<V.heap.size):=by unfold Hid;have:=SZ.out;have:=GW.out.size;omega
   clear HCT x0 x1 k0 S0 HZ HBC GW;go_wp2_with fail;refine HDT.out.mono ?_;rintro e w1 ⟨r0,rfl,m0,b⟩;obtain ⟨nr,xr,ar,cr,rfl⟩:=m0.parts;have PR2:=hid (PR1.out.step b);have r0:=PR2.out.c0;have r1:=PR2.out.c1;have f0:=PR2.out.fz 0;have f1:=PR2.out.fz 1;have FIN:Hid (zWA w (zYE A rs cs odd kk) kw (.returned (.agg #[.bool nr,.slice ar xr.length cr])) ((w1.setCell ⟨w.heap.size+1,0,none⟩ (.bool nr)).setCell ⟨w.heap.size+1,1,none⟩ (.slice ar xr.length cr))):=by
    unfold Hid;rw [HE.out];exact zSD m0 (zBA G1.out b) (by omega) SZ1.out
   clear m0 b HDT;go_wp2_with fail;exact bodyPost_ret (znA Tryz.results28 (PR2.out.set _ _) _ (by rfl)) rfl FIN.out
end Go.Proofs.YtjnokjgbeploaaaGreat
