/-
 QFo21ToBs18: Fo21, Mp18, Bs18, joined.
-/
import Derived.Test.YtjjpodnjljfheaaGreatQLr21ToOr21
import Derived.Test.YtjjpodnjljfheaaGreatQLi18ToFo18
import Derived.Test.YtjjpodnjljfheaaGreatQOf11ToTo18

set_option maxRecDepth 100000
set_option maxHeartbeats 6400000
set_option linter.unusedVariables false
set_option linter.unusedSimpArgs false
namespace Go.Proofs.YtjjpodnjljfheaaGreat
open Go.RowKit
attribute [local go_sem] zCD
def zyH (n Bl Bh b0:Nat) (v0:Value) (S:Nat→Prop):zKA:=⟨false,n,Bl,Bh,0,fun _=>b0,fun _=>v0,S⟩
theorem zAI {t:Nat} (h:t<1):t=0:=by omega
theorem start1_21 {B m n kw bs Bl Bh b0:Nat} {V:World} {v0:Value} {g0:Nat→Nat} {A:Nat→Nat→Int} (hs:Cel V bs 66 [.slice (some ⟨Bl,0,none⟩) 1 1,.slice (some ⟨Bh,0,none⟩) 1 1,.slice none 0 0]) (hl:Cel V Bl 52 [v0]) (hh:Cel V Bh 61 [hf1 b0,hf2 b0,hf3 b0,hf4 b0]) (ha:Cel V b0 52 [v0]) (s0:Sh17 B V v0 m n g0 A kw) (hn:n≤64) (hk1:1≤kw) :
  zOA (zyH n Bl Bh b0 v0 fun b=>∃t i,t<1∧i<m∧b=g0 i) B V bs (.slice none 0 0) m n 0 id id A kw:=by
 refine ⟨fun _=>g0,fun _=>A,fun _=>kw,⟨hs,hl,hh,fun t ht=>ha,(fun h=>by cases h),.inl ⟨rfl,rfl⟩,fun t ht=>?_,fun t u i j ht hu htu hi hj=>?_,fun b=>Iff.rfl,fun t u b l c l' c' ht hu el eu=>?_⟩,⟨hn,hk1,fun t ht h2=>rfl,fun i c hi hc=>rfl,fun _=>rfl,(fun h=>by cases h),(fun h=>by cases h),(fun h=>by cases h)⟩⟩
 ·obtain rfl:=zAI ht
  exact s0
 ·have h1:=zAI ht
  have h2:=zAI hu;omega
 ·have h1:=zAI ht
  have h2:=zAI hu;omega
theorem end1_21 {B bs m n r kw Bl Bh b0:Nat} {w:World} {v0 sv:Value} {S:Nat→Prop} {ρ γ:Nat→Nat} {X:Nat→Nat→Int} (h:zOA (zyH n Bl Bh b0 v0 S) B w bs sv m n r ρ γ X kw):∃g0,Sh17 B w v0 m n g0 X kw:=by
 obtain ⟨gs,Z,kz,h1,h2⟩:=h;have q0:=h1.sh 0 (show 0<1 by omega);rw [h2.k0 0 (show 0<1 by omega) (by decide)] at q0;exact ⟨gs 0,q0.congr fun i j hi hj=>(h2.x0 i j hi hj).symm⟩
theorem zUH {B m n kw T:Nat} {w:World} {lv:Value} {gs:Nat→Nat} {A:Nat→Nat→Int} (h:Sh17 B w lv m n gs A kw) (hTb:Tb18 m n A T) (hB:B≤w.heap.size) (hm:m≤64) (hn:n≤64) (hT:((bd18 T 128:Nat):Int)<pw kw) (hk1:1≤kw) (hK:kw≤68719476736) :
  Calls Tryz.prog 35 #[lv] w (ztJ B w lv m n A kw):=by
 obtain ⟨la,lc,rfl⟩:∃la lc,lv=.slice la m lc:=by
  rcases h.1 with ⟨e,h⟩ | ⟨h0,Lb,cap,r,e,_⟩
  ·exact ⟨none,0,by rw [e];exact h⟩
  ·exact ⟨_,cap,e⟩
 obtain ⟨W0,hW⟩:∃W0,w.alloc (.cells #[.slice la m lc] 52)=W0:=⟨_,rfl⟩
 obtain ⟨b0,sz0⟩:=alo1 w (.cells #[.slice la m lc] 52);rw [hW] at b0 sz0;have d0:Cel W0 w.heap.size 52 [.slice la m lc]:=by rw [←hW];exact Cel.new w _ _
 have HAL:=hid (zrF (w:=W0) (a:=la) (l:=m) (c:=lc));have SH:=hid (h.now b0);have D0:=hid d0;have B0:=hid b0;have SZ0:=hid sz0;have EW:=hid hW;have HTB:=hid hTb;have HBW:=hid hB;have HT:=hid hT;have Hk1:=hid hk1;have HK:=hid hK;clear h hTb hB hT hk1 hK b0 d0 sz0 hW;go_enter Tryz.func35,Tryz.ntmps35;go_wp2_with fail;rw [EW.out];refine HAL.out.mono ?_;rintro e w1 ⟨rfl,dA,b1⟩;obtain ⟨V2,hV2⟩:∃V2,w1.alloc (.cells #[hf1 W0.heap.size,hf2 W0.heap.size,hf3 W0.heap.size,hf4 W0.heap.size] 61)=V2:=⟨_,rfl⟩
 obtain ⟨b2,sz2⟩:=alo1 w1 (.cells #[hf1 W0.heap.size,hf2 W0.heap.size,hf3 W0.heap.size,hf4 W0.heap.size] 61);rw [hV2] at b2 sz2;have dH:Cel V2 w1.heap.size 61 [hf1 W0.heap.size,hf2 W0.heap.size,hf3 W0.heap.size,hf4 W0.heap.size]:=by rw [←hV2];exact Cel.new w1 _ _
 obtain ⟨V3,hV3⟩:∃V3,V2.alloc (.cells #[.slice (some ⟨w.heap.size,0,none⟩) 1 1,.slice (some ⟨w1.heap.size,0,none⟩) 1 1,.slice none 0 0] 66)=V3:=⟨_,rfl⟩
 obtain ⟨b3,sz3⟩:=alo1 V2 (.cells #[.slice (some ⟨w.heap.size,0,none⟩) 1 1,.slice (some ⟨w1.heap.size,0,none⟩) 1 1,.slice none 0 0] 66);rw [hV3] at b3 sz3;have dS:Cel V3 V2.heap.size 66 [.slice (some ⟨w.heap.size,0,none⟩) 1 1,.slice (some ⟨w1.heap.size,0,none⟩) 1 1,.slice none 0 0]:=by rw [←hV3];exact Cel.new V2 _ _
 have bb:=below_step b1 (below_step b2 b3);have wk:=start1_21 dS (D0.out.step bb) (dH.step b3) (dA.step (below_step b2 b3)) (SH.out.now bb) hn Hk1.out;have hs1:=b1.size;have hs2:=SZ0.out;have hs0:=HBW.out;have HSA:=hid (zaE wk HTB.out (by omega) (by omega) hm (by omega) HT.out Hk1.out HK.out);have HBB:Hid (Below B w V3):=by
  unfold Hid;have q:=below_step B0.out bb;exact ⟨q.os,q.tape,q.output,q.size,fun b hb=>q.block b (by omega)⟩
 have EV2:=hid hV2;have EV3:=hid hV3;have ESZ:Hid (w1.heap.size+1=V2.heap.size):=sz2.symm;obtain ⟨bs,hbs⟩:∃bs,V2.heap.size=bs:=⟨_,rfl⟩
 rw [hbs] at HSA ESZ;clear HAL dA b1 b2 sz2 b3 sz3 dH dS bb wk hV2 hV3 hs1 hs2 hs0 D0 SH B0 SZ0 EW hbs;go_wp2_with fail;rw [EV2.out,EV3.out,ESZ.out];refine HSA.out.mono ?_;rintro e w4 ⟨sv,r,γ,X,rfl,h1,h2,h3⟩;obtain ⟨gs',hsh⟩:=end1_21 h1;obtain ⟨sa,sc,rfl⟩:=h1.sform;have s2:=h1.s2;have FF:Hid (ztJ B w (.slice la m lc) m n A kw (.returned (.int .i64 (r:Int))) w4):=⟨r,γ,gs',X,rfl,hsh,h2,zaA HBB.out h3⟩
 clear HSA h1 h2 h3 hsh EV2 EV3 HBB ESZ;go_wp2;go_ret;exact FF.out
theorem zDJ {w:World} {v:Value} {m n k kw kt T:Nat} {zs:List Int} (h:Mx w v m n zs k) (hTb:Tb18 m n (en18 n zs) T) (hkk:k≤kw) (hT:((bd18 T 128:Nat):Int)<pw kw) (hk1:1≤kw) (hK:kw≤68719476736) (hkt:((T:Nat):Int)<pw kt) :
  Calls Tryz.prog 15 #[v] w (zeJ w m n (en18 n zs) kt):=by
 obtain ⟨aa,ca,rfl,hm,hn⟩:=h.form;have hzl:zs.length=m*n:=by obtain ⟨_,_,_,_,_,h,_⟩:=h;exact h
 obtain ⟨la,hla⟩:∃la,m*n=la:=⟨_,rfl⟩
 have HLA:=hid hla;rw [hla] at h ⊢;dsimp only [matv] at h ⊢;obtain ⟨W0,hW⟩:∃W0,(w.alloc (.cells #[.int .i64 (m:Int),.int .i64 (n:Int),.slice aa la ca] 24)).alloc mbox=W0:=⟨_,rfl⟩
 obtain ⟨b0,sz0⟩:=zXA w (.cells #[.int .i64 (m:Int),.int .i64 (n:Int),.slice aa la ca] 24) mbox;rw [hW] at b0 sz0;have dA:Cel W0 w.heap.size 24 [.int .i64 (m:Int),.int .i64 (n:Int),.slice aa la ca]:=by rw [←hW];exact (Cel.new w _ _).step ((Below.refl _ _).alloc (Nat.le_refl _) _)
 have dR:Cel W0 (w.heap.size+1) 24 [.int .i64 0,.int .i64 0,.slice none 0 0]:=by
  rw [←hW];have:=Cel.new (w.alloc (.cells #[.int .i64 (m:Int),.int .i64 (n:Int),.slice aa la ca] 24)) 24 [.int .i64 0,.int .i64 0,.slice none 0 0]
  simpa using this
 have MX:=hid (h.now b0);have HCK:=hid (zfC MX.out);have DA:=hid dA;have DR:=hid dR;have B0:=hid b0;have SZ0:=hid sz0;have EW:=hid hW;have HZL:=hid hzl;have HTB:=hid hTb;have HKK:=hid hkk;have HT:=hid hT;have Hk1:=hid hk1;have HK:=hid hK;have HKT:=hid hkt;have x0:=dA.at (i:=0) rfl;have x1:=dA.at (i:=1) rfl;have x2:=dA.at (i:=2) rfl;rw [←hW] at x0 x1 x2;clear h hTb hkk hT hk1 hK hkt b0 sz0 hW dA dR hzl hla;go_enter Tryz.func15,Tryz.ntmps15;go_upto_region 1 with fail
 rw [EW.out] at x0 x1 x2;rw [EW.out];go_wp2_with fail;refine HCK.out.mono ?_;rintro e w1 ⟨rfl,b1⟩;have DA1:=hid (DA.out.step b1);have DR1:=hid (DR.out.step b1);have B1:=hid (below_step B0.out b1);have HLI:=hid (zUD (MX.out.now b1));clear HCK x0 x1 x2 EW DA DR MX;have x0:=DA1.out.at (i:=0) rfl;have x1:=DA1.out.at (i:=1) rfl;have x2:=DA1.out.at (i:=2) rfl;have hs1:=b1.size;have hsz0:=SZ0.out;clear b1;go_wp2_with fail;refine HLI.out.mono ?_;rintro e w2 ⟨lv,gs,rfl,q1,q2⟩;have hml:(rowsL m n zs).length=m:=zLB;rw [hml] at q1;have SH2:=hid ((q1.congr (fun i j hi hj=>ziF HZL.out hi hj)).more18 HKK.out);have DA2:=hid (DA1.out.step q2);have DR2:=hid (DR1.out.step q2);have B2:=hid (below_step B1.out q2);have HFD:=hid (zUH SH2.out HTB.out q2.size hm hn HT.out Hk1.out HK.out);have HS2:=hid q2.size;obtain ⟨lla,llc,rfl⟩:∃la lc,lv=.slice la m lc:=by
  rcases q1.1 with ⟨e,h⟩ | ⟨h0,Lb,cap,r,e,_⟩
  ·exact ⟨none,0,by rw [e];exact h⟩
  ·exact ⟨_,cap,e⟩
 clear HLI q1 q2 DA1 DR1 B1 x0 x1 x2 hml;go_wp2_with fail;refine HFD.out.mono ?_;rintro e w3 ⟨r,γ,gs',X,rfl,h1,h2,h3⟩;have DA3:Cel w3 w.heap.size 24 [.int .i64 (m:Int),.int .i64 (n:Int),.slice aa la ca]:=(h3.block _ (by omega)).trans DA2.out;have DR3:=hid (show Cel w3 (w.heap.size+1) 24 [.int .i64 0,.int .i64 0,.slice none 0 0] from (h3.block _ (by omega)).trans DR2.out);have B3:Hid (Below w.heap.size w w3):=zaA B2.out ⟨h3.os,h3.tape,h3.output,h3.size,fun b hb=>h3.block b (by omega)⟩;have x1:=DA3.at (i:=1) rfl;have HMA:=hid (zIE h1 hm hn);have HHB:=hid h2;have hs3:=h3.size;clear HFD h1 h2 h3 DA2 DR2 B2 DA3 SH2;go_wp2_with fail;refine HMA.out.mono ?_;rintro e w4 ⟨v4,rfl,q3,q4⟩;have q5:=q3.fit18 (l:=kt) (fun z hz=>by
  have hz':=hz;unfold zG18 at hz';simp only [List.mem_map,List.mem_range] at hz';obtain ⟨t,ht,rfl⟩:=hz';have hn0:0<n:=Nat.pos_of_ne_zero fun e=>by subst e;simp at ht
  have:=HHB.out.size HTB.out (Nat.le_refl _) (t / n) (t % n) (Nat.div_lt_of_lt_mul (by rw [Nat.mul_comm];exact ht)) (Nat.mod_lt _ hn0);have:=HKT.out;omega)
 obtain ⟨a4,c4,rfl,-,-⟩:=q3.mx.form;rw [HLA.out] at q5;dsimp only [matv] at q5 ⊢;have pr:=DR3.out.step q4;have y0:=pr.at (i:=0) rfl;have y1:=pr.at (i:=1) rfl;have y2:=pr.at (i:=2) rfl;have f0:=pr.fz 0;have f1:=pr.fz 1;have f2:=pr.fz 2;have FF:Hid (zeJ w m n (en18 n zs) kt (.returned (.tuple #[.agg #[.int .i64 (m:Int),.int .i64 (n:Int),.slice a4 la c4],.int .i64 0])) (put3 w4 (w.heap.size+1) (.int .i64 (m:Int)) (.int .i64 (n:Int)) (.slice a4 la c4))∧Cel (put3 w4 (w.heap.size+1) (.int .i64 (m:Int)) (.int .i64 (n:Int)) (.slice a4 la c4)) (w.heap.size+1) 24 [.int .i64 (m:Int),.int .i64 (n:Int),.slice a4 la c4]) :=
  ⟨⟨_,r,γ,X,rfl,q5.wk pr _ _ _,HHB.out,bset (bset (bset (below_step B3.out q4) (by omega)) (by omega)) (by omega)⟩,pr.put3 _ _ _⟩
 rw [HLA.out];clear HMA q3 q4 q5 pr DR3 B3 HHB x1;go_wp2_with fail;refine bodyPost_ret (zWC Tryz.results15 FF.out.2 _ (by rfl) (by rfl)) rfl ?_;exact FF.out.1
end Go.Proofs.YtjjpodnjljfheaaGreat
namespace Go.Proofs.YtjjpodnjljfheaaGreat
open Go.RowKit
theorem Prr.top18 {B m r c:Nat} {w:World} {a:Option Addr} {pss:List (List (Value×Value))} (h:Prr B w (.slice a m c) pss) (hr:r≤pss.length):Prr B w (.slice a r c) (pss.take r):=by
 obtain ⟨a',c',h1,h2,h3,h4⟩:=h;simp only [Value.slice.injEq] at h1;obtain ⟨rfl,rfl,rfl⟩:=h1;have hl:(pss.take r).length=r:=by rw [List.length_take];omega
 refine ⟨a,c,by rw [hl],by omega,by omega,?_⟩;rcases h4 with h4 | ⟨b,off,h5,h6,h7⟩
 ·exact .inl (by rw [h4];simp)
 ·refine .inr ⟨b,off,h5,h6,fun j ps hp=>h7 j ps ?_⟩
  rw [List.getElem?_take] at hp
  split at hp
  ·exact hp
  ·cases hp
theorem Zcss.top18 {w:World} {m n k r:Nat} {pss:List (List (Value×Value))} {H:Nat→Nat→Int} (h:Zcss w pss ((List.range m).map fun i=>(List.range n).map (H i)) k) (hr:r≤m):Zcss w (pss.take r) ((List.range r).map fun i=>(List.range n).map (H i)) k:=by
 have hl:pss.length=m:=by rw [h.1];simp
 refine ⟨by rw [List.length_take,hl];simp;omega,fun j ps hp=>?_⟩;rw [List.getElem?_take] at hp
 split at hp
 ·rename_i q
  have:=h.2 j ps hp;have e1:((List.range m).map fun i=>(List.range n).map (H i)).getD j []=(List.range n).map (H j):=by simp [show j<m by omega]
  have e2:((List.range r).map fun i=>(List.range n).map (H i)).getD j []=(List.range n).map (H j):=by simp [q]
  rw [e1] at this;rw [e2];exact this
 ·cases hp
theorem zZE {w:World} {a:Option Addr} {m c r:Nat} (hr:r≤c) (ha:a=none∧c=0∨∃b,a=some ⟨b,0,none⟩∧0<c):(Instr.slice 52 (.slice a m c) none (some (.int .i64 (r:Int))) none).run Tryz.prog w=.ok (.slice a r c) w:=by
 have i2:(0:Int)≤(r:Int):=by omega
 have i5:(r:Int)≤(c:Int):=by omega
 rcases ha with ⟨rfl,rfl⟩ | ⟨b,rfl,h0⟩
 ·obtain rfl:r=0:=by omega
  go_simp
 ·have i4:¬c=0:=by omega
  go_simp
theorem matrixP18 {w:World} {m n kw:Nat} {la:Option Addr} {lc:Nat} {pss:List (List (Value×Value))} {H:Nat→Nat→Int} (hp:Prr 0 w (.slice la m lc) pss) (hz:Zcss w pss ((List.range m).map fun i=>(List.range n).map (H i)) kw) (hsm:zmI n pss) (hr:m≤64) (hc:n≤64) :
  Calls Tryz.prog 25 #[.slice la m lc,.int .i64 (n:Int)] w (zxC w m n (zG18 m n H) kw):=by
 obtain ⟨W0,hW⟩:∃W0,w.alloc mbox=W0:=⟨_,rfl⟩
 obtain ⟨b0,sz0⟩:=alo1 w mbox;rw [hW] at b0 sz0;have PR:=hid (zZB hW);have hrc:m*n≤64*64:=Nat.mul_le_mul hr hc;have HPL:Hid (pss.length=m):=by unfold Hid;rw [hz.1];simp
 have HC:=hid (zqD (hp.now b0) hsm (by rw [HPL.out];omega) (by omega));have ZF:=hid (((Zcss.flat hz).now b0));rw [zRE] at ZF;have hfl:=zMB m n H;obtain ⟨FT,hFT⟩:∃FT,pss.flatten=FT:=⟨_,rfl⟩
 obtain ⟨ZS,hZS⟩:∃ZS,zG18 m n H=ZS:=⟨_,rfl⟩
 rw [hFT] at HC ZF;rw [hZS] at ZF hfl ⊢;have HFL:=hid hfl;have G:=hid b0;have EW:=hid hW;clear hp hz hsm hfl b0 sz0 hW hFT hZS HPL;go_enter Tryz.func25,Tryz.ntmps25;go_upto_region 1 with fail
 rw [EW.out];clear EW;go_wp2_with fail;refine HC.out.mono ?_;rintro e w1 ⟨v1,rfl,q1,b1⟩;have HMK:=hid (zPH q1 (ZF.out.now b1).zis HFL.out hr hc);have B1:=hid (below_step G.out b1);have PR1:=hid (PR.out.step b1);clear HC q1 b1 G PR ZF;go_wp2_with fail;refine HMK.out.mono ?_;rintro e w2 ⟨v2,rfl,q2,b2⟩;obtain ⟨a2,c2,rfl,-,-⟩:=q2.mx.form;dsimp only [matv];obtain ⟨V3,hV3⟩:∃V3,w2.alloc (.cells #[.int .i64 (m:Int),.int .i64 (n:Int),.slice a2 (m*n) c2] 24)=V3:=⟨_,rfl⟩
 obtain ⟨b3,sz3⟩:=alo1 w2 (.cells #[.int .i64 (m:Int),.int .i64 (n:Int),.slice a2 (m*n) c2] 24);rw [hV3] at b3 sz3;have d3:Cel V3 w2.heap.size 24 [.int .i64 (m:Int),.int .i64 (n:Int),.slice a2 (m*n) c2]:=by rw [←hV3];exact Cel.new w2 _ _
 have pr:=PR1.out.step (below_step b2 b3);have x0:=d3.at (i:=0) rfl;have x1:=d3.at (i:=1) rfl;have x2:=d3.at (i:=2) rfl;have y0:=pr.at (i:=0) rfl;have y1:=pr.at (i:=1) rfl;have y2:=pr.at (i:=2) rfl;have f0:=pr.fz 0;have f1:=pr.fz 1;have f2:=pr.fz 2;have FF:Hid (zxC w m n ZS kw (.returned (.agg #[.int .i64 (m:Int),.int .i64 (n:Int),.slice a2 (m*n) c2])) (put3 V3 w.heap.size (.int .i64 (m:Int)) (.int .i64 (n:Int)) (.slice a2 (m*n) c2))∧Cel (put3 V3 w.heap.size (.int .i64 (m:Int)) (.int .i64 (n:Int)) (.slice a2 (m*n) c2)) w.heap.size 24 [.int .i64 (m:Int),.int .i64 (n:Int),.slice a2 (m*n) c2]) :=
  ⟨⟨_,rfl,(q2.now b3).wk pr _ _ _,bset (bset (bset (below_step B1.out (below_step b2 b3)) (Nat.le_refl _)) (Nat.le_refl _)) (Nat.le_refl _)⟩,pr.put3 _ _ _⟩
 have EV:=hid hV3;rw [←hV3] at x0 x1 x2 y0 y1 y2 f0 f1 f2;clear HMK q2 b2 b3 sz3 hV3 d3 pr PR1 B1;go_wp2_with fail;rw [EV.out];refine bodyPost_ret (zJG Tryz.results25 FF.out.2 _ (by rfl)) rfl ?_;exact FF.out.1
def zhJ (w:World) (m n:Nat) (A:Nat→Nat→Int) (kt:Nat) (e:Ending) (w':World):Prop :=
 ∃v r γ X,e=.returned (.tuple #[v,.int .i64 0])∧Mc w' v r n (zG18 r n X) kt∧Hb18 m n m r id γ X A∧Below w.heap.size w w'
theorem basis18 {w:World} {v:Value} {m n k kw kt T:Nat} {zs:List Int} (h:Mx w v m n zs k) (hTb:Tb18 m n (en18 n zs) T) (hkk:k≤kw) (hT:((bd18 T 128:Nat):Int)<pw kw) (hk1:1≤kw) (hK:kw≤68719476736) (hkt:((T:Nat):Int)<pw kt) :
  Calls Tryz.prog 16 #[v] w (zhJ w m n (en18 n zs) kt):=by
 obtain ⟨aa,ca,rfl,hm,hn⟩:=h.form;have hzl:zs.length=m*n:=by obtain ⟨_,_,_,_,_,h,_⟩:=h;exact h
 obtain ⟨la,hla⟩:∃la,m*n=la:=⟨_,rfl⟩
 have HLA:=hid hla;rw [hla] at h ⊢;dsimp only [matv] at h ⊢;obtain ⟨W0,hW⟩:∃W0,(w.alloc (.cells #[.int .i64 (m:Int),.int .i64 (n:Int),.slice aa la ca] 24)).alloc mbox=W0:=⟨_,rfl⟩
 obtain ⟨b0,sz0⟩:=zXA w (.cells #[.int .i64 (m:Int),.int .i64 (n:Int),.slice aa la ca] 24) mbox;rw [hW] at b0 sz0;have dA:Cel W0 w.heap.size 24 [.int .i64 (m:Int),.int .i64 (n:Int),.slice aa la ca]:=by rw [←hW];exact (Cel.new w _ _).step ((Below.refl _ _).alloc (Nat.le_refl _) _)
 have dR:Cel W0 (w.heap.size+1) 24 [.int .i64 0,.int .i64 0,.slice none 0 0]:=by
  rw [←hW];have:=Cel.new (w.alloc (.cells #[.int .i64 (m:Int),.int .i64 (n:Int),.slice aa la ca] 24)) 24 [.int .i64 0,.int .i64 0,.slice none 0 0]
  simpa using this
 have MX:=hid (h.now b0);have HCK:=hid (zfC MX.out);have DA:=hid dA;have DR:=hid dR;have B0:=hid b0;have SZ0:=hid sz0;have EW:=hid hW;have HZL:=hid hzl;have HTB:=hid hTb;have HKK:=hid hkk;have HT:=hid hT;have Hk1:=hid hk1;have HK:=hid hK;have HKT:=hid hkt;have x0:=dA.at (i:=0) rfl;have x1:=dA.at (i:=1) rfl;have x2:=dA.at (i:=2) rfl;rw [←hW] at x0 x1 x2;clear h hTb hkk hT hk1 hK hkt b0 sz0 hW dA dR hzl hla;go_enter Tryz.func16,Tryz.ntmps16;go_upto_region 1 with fail
 rw [EW.out] at x0 x1 x2;rw [EW.out];go_wp2_with fail;refine HCK.out.mono ?_;rintro e w1 ⟨rfl,b1⟩;have DA1:=hid (DA.out.step b1);have DR1:=hid (DR.out.step b1);have B1:=hid (below_step B0.out b1);have HLI:=hid (zUD (MX.out.now b1));clear HCK x0 x1 x2 EW DA DR MX;have x0:=DA1.out.at (i:=0) rfl;have x1:=DA1.out.at (i:=1) rfl;have x2:=DA1.out.at (i:=2) rfl;have hs1:=b1.size;have hsz0:=SZ0.out;clear b1;go_wp2_with fail;refine HLI.out.mono ?_;rintro e w2 ⟨lv,gs,rfl,q1,q2⟩;have hml:(rowsL m n zs).length=m:=zLB;rw [hml] at q1;have SH2:=hid ((q1.congr (fun i j hi hj=>ziF HZL.out hi hj)).more18 HKK.out);have DA2:=hid (DA1.out.step q2);have DR2:=hid (DR1.out.step q2);have B2:=hid (below_step B1.out q2);have HFD:=hid (zUH SH2.out HTB.out q2.size hm hn HT.out Hk1.out HK.out);have HS2:=hid q2.size;obtain ⟨lla,llc,rfl⟩:∃la lc,lv=.slice la m lc:=by
  rcases q1.1 with ⟨e,h⟩ | ⟨h0,Lb,cap,r,e,_⟩
  ·exact ⟨none,0,by rw [e];exact h⟩
  ·exact ⟨_,cap,e⟩
 clear HLI q1 q2 DA1 DR1 B1 x0 x1 x2 hml;go_wp2_with fail;refine HFD.out.mono ?_;rintro e w3 ⟨r,γ,gs',X,rfl,h1,h2,h3⟩;have DA3:Cel w3 w.heap.size 24 [.int .i64 (m:Int),.int .i64 (n:Int),.slice aa la ca]:=(h3.block _ (by omega)).trans DA2.out;have DR3:=hid (show Cel w3 (w.heap.size+1) 24 [.int .i64 0,.int .i64 0,.slice none 0 0] from (h3.block _ (by omega)).trans DR2.out);have B3:Hid (Below w.heap.size w w3):=zaA B2.out ⟨h3.os,h3.tape,h3.output,h3.size,fun b hb=>h3.block b (by omega)⟩;have x1:=DA3.at (i:=1) rfl;have HHB:=hid h2;have hrm:r≤m:=h2.ec.rows21;have HRM:=hid hrm;obtain ⟨pss,hp,hz,hsm⟩:=h1.prr18 hm hn;have hpl:pss.length=m:=by rw [hz.1];simp
 have hsl:∀wx:World,(Instr.slice 52 (.slice lla m llc) none (some (.int .i64 (r:Int))) none).run Tryz.prog wx=.ok (.slice lla r llc) wx:=fun wx=>by
  have h1':=h1.1;rcases h1' with ⟨e,e'⟩ | ⟨h0,Lb,cap,rr,e,e',_⟩
  ·simp only [Value.slice.injEq] at e'
   obtain ⟨rfl,-,rfl⟩:=e';exact zZE (by omega) (.inl ⟨rfl,rfl⟩)
  ·simp only [Value.slice.injEq,true_and] at e
   obtain ⟨rfl,rfl⟩:=e;exact zZE (by omega) (.inr ⟨Lb,rfl,by omega⟩)
 have HMA:Hid (∀w',Below w3.heap.size w3 w'→Calls Tryz.prog 25 #[.slice lla r llc,.int .i64 (n:Int)] w' (zxC w' r n (zG18 r n X) kw)):=fun w' hb=>matrixP18 ((hp.top18 (by omega)).now hb) ((hz.top18 hrm).now hb) (fun ps hps=>hsm ps (List.mem_of_mem_take hps)) (by omega) hn
 have HSZ:Hid (w3.heap.size=w3.heap.size):=rfl;clear HFD h1 h2 h3 DA2 DR2 B2 DA3 SH2 hp hz hsm hpl;go_wp2_with fail;have KB:Hid (∀w',Below w3.heap.size w3 w'→w'.cell? ⟨w.heap.size,1,none⟩=some (.int .i64 (n:Int))):=fun w' h=>cnow h x1
 refine zEA (fun w'=>w'.cell? ⟨w.heap.size,1,none⟩=some (.int .i64 (n:Int))) 6 (by kernel_rfl) ?_;obtain ⟨D1,hD⟩:∃D1,w3.drew=D1:=⟨_,rfl⟩
 have GB:Hid (Below w3.heap.size w3 D1):=by unfold Hid;rw [←hD];exact (Below.refl _ _).drew
 rw [hD];clear hD;refine zHA [(0,(.slice lla m llc)),(1,(.int .i64 (r:Int))),(2,(.slice lla r llc)),(3,(.pointer (some ⟨w.heap.size,1,none⟩))),(4,(.int .i64 (n:Int)))] 5 ?_ (KB.out _ GB.out) ?_
 ·simp only [zUA,gA9,g09,g19,Act.put,sI9,s09,s19]
  (repeat' (first | exact trivial | refine And.intro (Or.inl ⟨by rfl,?_⟩) ?_)) <;> (intro w hSw;(try dsimp only at hSw);go_simp)
 simp only [actV,gA9,g09,g19,Act.put,sI9,s09,s19];refine zAA (i:=5) (o:=⟨some 22,.call { callee:=.value (.func 25),args:=#[.tmp 19,.tmp 21],argTypes:=#[52,3] },24, "hnf.go:40",#[⟨2,.data⟩,⟨4,.data⟩],none⟩) (by kernel_rfl) rfl (fun K hK=>?_);go_simp;go_at_call 25;refine (HMA.out _ GB.out).mono ?_;rintro e w2 ⟨v4,rfl,q3,b⟩;have lz2:=(show Below _ _ _ from b).size;replace GB:=hid (below_step GB.out b);have q5:Mc w2 v4 r n (zG18 r n X) kt:=q3.fit18 (l:=kt) (fun z hz=>by
  have hz':=hz;unfold zG18 at hz';simp only [List.mem_map,List.mem_range] at hz';obtain ⟨t,ht,rfl⟩:=hz';have hn0:0<n:=Nat.pos_of_ne_zero fun e=>by subst e;simp at ht
  have hrm':=HRM.out;have:=HHB.out.size HTB.out (Nat.le_refl _) (t / n) (t % n) (by have:=Nat.div_lt_of_lt_mul (show t<n*r by rw [Nat.mul_comm];exact ht);omega) (Nat.mod_lt _ hn0);have:=HKT.out;omega)
 obtain ⟨a4,c4,rfl,-,-⟩:=q3.mx.form;obtain ⟨l4,hl4⟩:∃l4,r*n=l4:=⟨_,rfl⟩
 rw [hl4] at q5 ⊢;have Q5:=hid q5;have PR:=hid (DR3.out.step GB.out);have B4:=hid (below_step B3.out GB.out);clear q3 q5 hl4;clear b;refine hK.out _ _ (fun _=>KB.out _ GB.out) ?_;clear hK;refine zAA (i:=6) (o:=⟨none,.store 24 (.tmp 2) (.tmp 22),0, "hnf.go:40",#[⟨5,.data⟩,⟨5,.chain⟩,⟨0,.phase⟩,⟨1,.phase⟩,⟨2,.phase⟩,⟨3,.phase⟩,⟨4,.phase⟩,⟨5,.phase⟩],none⟩) (by kernel_rfl) rfl (fun K hK=>?_);have r0:=PR.out.at (i:=0) rfl;have r1:=PR.out.at (i:=1) rfl;have r2:=PR.out.at (i:=2) rfl;have f0:=PR.out.fz 0;have f1:=PR.out.fz 1;have f2:=PR.out.fz 2;go_simp;clear r0 r1 r2 f0 f1 f2;obtain ⟨V3,hW⟩:∃V3,(((w2.setCell ⟨w.heap.size+1,0,none⟩ (.int .i64 (r:Int))).setCell ⟨w.heap.size+1,1,none⟩ (.int .i64 (n:Int))).setCell ⟨w.heap.size+1,2,none⟩ (.slice a4 l4 c4))=V3:=⟨_,rfl⟩
 have PF:Hid (Cel V3 (w.heap.size+1) 24 [(.int .i64 (r:Int)),(.int .i64 (n:Int)),(.slice a4 l4 c4)]):=by unfold Hid;rw [←hW];exact PR.out.put3 _ _ _
 have FIN:Hid (zhJ w m n (en18 n zs) kt (.returned (.tuple #[.agg #[(.int .i64 (r:Int)),(.int .i64 (n:Int)),(.slice a4 l4 c4)],.int .i64 0])) V3):=by
  unfold Hid;rw [←hW];exact ⟨_,r,γ,X,rfl,Q5.out.wk PR.out _ _ _,HHB.out,zVA B4.out (Nat.le_succ _) _ _ _⟩
 rw [hW];clear hW;refine hK.out _ _ (fun h=>absurd h (by decide)) ?_;clear hK
 try simp only [Act.put]
 refine zAA (i:=7) (o:=⟨some 3,.assign (.const (.int .i64 0)),28, "hnf.go:40",#[⟨6,.chain⟩,⟨0,.phase⟩,⟨1,.phase⟩,⟨2,.phase⟩,⟨3,.phase⟩,⟨4,.phase⟩,⟨5,.phase⟩,⟨6,.phase⟩],none⟩) (by kernel_rfl) rfl (fun K hK=>?_);go_simp;refine hK.out _ _ (fun h=>absurd h (by decide)) ?_;clear hK
 try simp only [Act.put]
 refine zDA (by kernel_rfl) ?_ _;clear KB GB PR B4 Q5 HMA B3 DR3 HHB;go_wp2;exact bodyPost_ret (zWC Tryz.results16 PF.out _ (by rfl) (by rfl)) rfl FIN.out
end Go.Proofs.YtjjpodnjljfheaaGreat
