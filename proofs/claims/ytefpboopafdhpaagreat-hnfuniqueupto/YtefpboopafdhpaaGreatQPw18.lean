import Derived.Test.YtefpboopafdhpaaGreatQAr18ToR5Cmp
import Derived.Test.YtefpboopafdhpaaGreatQLb18
set_option maxRecDepth 100000
set_option maxHeartbeats 6400000
set_option linter.unusedVariables false
set_option linter.unusedSimpArgs false
namespace Go.Proofs.YtefpboopafdhpaaGreat
open Go.RowKit
def zXH (w:World) (m n:Nat) (X:Nat→Nat→Int) (gk:Nat) (s2 s4 s10:Value) (wx:World):Prop :=
 ∃(i nx r:Nat) (γ:Nat→Nat),s10=.int .i64 (i:Int)∧s4=.int .i64 (nx:Int)∧i≤m∧gk=m-i∧nx≤n∧Pf18 n i r nx γ X∧Ivs w.heap.size wx s2 (zhB γ r)∧Below w.heap.size w wx
theorem pivotsOfB18 {w:World} {B m n k:Nat} {lv:Value} {gs:Nat→Nat} {X:Nat→Nat→Int} (h:Sh17 B w lv m n gs X k) (hm:m≤64) (hn:n≤64) :
  Calls Tryz.prog 22 #[lv] w (znC w n m X):=by
 obtain ⟨la,cap,rfl,hla⟩:∃la cap,lv=.slice la m cap∧(0<m→∃Lb,la=some ⟨Lb,0,none⟩∧m≤cap):=by
  rcases h.1 with ⟨e0,e⟩ | ⟨h0,Lb,cap,q,e,e1,_⟩
  ·exact ⟨none,0,by rw [e,e0],fun q=>by omega⟩
  ·exact ⟨_,cap,e,fun _=>⟨Lb,rfl,e1⟩⟩
 have SH:=hid h;have HLA:=hid hla;have H0:Hid (zXH w m n X m (.slice none 0 0) (.int .i64 0) (.int .i64 0) w):=⟨0,0,0,fun _=>0,rfl,rfl,Nat.zero_le _,rfl,Nat.zero_le _,Pf18.start n _ _,Ivs.nil _ _,Below.refl _ _⟩
 clear h hla;go_enter Tryz.func22,Tryz.ntmps22;go_wp2_with fail
 go_loopg [2,4,10] m (fun gk s2 s4 s10 wx=>zXH w m n X gk s2 s4 s10 wx)
 case atStart=>exact H0.out
 case round =>
  clear H0;obtain ⟨i,nx,r,γ,rfl,rfl,him,hgk,hnx,hpf,hiv,hb⟩:=hrel;have IV:=hid hiv;have BB:=hid hb;have HG:=hid hgk;have HP:=hid hpf;clear hiv hb hgk hpf;obtain ⟨aa,cc,rfl,-,-⟩:=IV.out.form;obtain ⟨ll,hll⟩:∃ll,(zhB γ r).length=ll:=⟨_,rfl⟩
  rw [hll] at IV
  try rw [hll]
  have HLL:=hid hll;clear hll
  by_cases hlt:i<m
  ·have hlt':(i:Int)<(m:Int):=by omega
   obtain ⟨Lb,rfl,hmc⟩:=HLA.out (by omega);have sh:=SH.out.now BB.out;have k0:=sh.lineS hlt;obtain ⟨g,hge⟩:∃g,gs i=g:=⟨_,rfl⟩
   obtain ⟨ps,ha,hz⟩:=(sh.2.2 i hlt).2;rw [hge] at k0 ha;have HS:=hid (index18 ha hz (by simp) hn);have hw:=zYA (i:=i) (by omega);have HMM:Hid (m-(i+1)<gk):=by unfold Hid;rw [HG.out];omega
   have HGE:=hid hge;clear sh ha hz hge HG;go_wp2_with fail;refine HS.out.mono ?_;rintro e w1 ⟨q,rfl,hq,b⟩;have B1:=hid (below_step BB.out b);have IV1:=hid (IV.out.now b);rcases hq with ⟨rfl,hz⟩ | ⟨c,rfl,hcn,h1,h2⟩
   ·have hzr:∀j,j<n→X i j=0:=fun j hj=>by
     have:=hz j hj
     simpa [hj] using this
    have HN1:Hid (zXH w m n X (m-(i+1)) (.slice aa ll cc) (.int .i64 (n:Int)) (.int .i64 ((i+1:Nat):Int)) w1):=⟨i+1,n,r,γ,rfl,rfl,by omega,rfl,Nat.le_refl _,HP.out.zero hzr,IV1.out,B1.out⟩
    clear HS b IV BB IV1 B1 k0 hzr hz;go_wp2_with fail;go_roundg (m-(i+1))
    case rel=>exact HN1.out
    case measure=>exact HMM.out
   ·have hg:∀j,j<n→((List.range n).map (X i)).getD j 0=X i j:=fun j hj=>by simp [hj]
    have hz0:∀j,j<c→X i j=0:=fun j hj=>by rw [←hg j (by omega)];exact h1 j hj
    have hne:X i c≠0:=by rw [←hg c hcn];exact h2
    have HZ0:=hid hz0;have HNE:=hid hne;have hcn':(c:Int)<(n:Int):=by omega
    have hc0:¬((c:Int)<0):=by omega
    have sh1:=SH.out.now B1.out;have k1:=sh1.lineS hlt;obtain ⟨nf,af,lf,cf,e0,e1,-,-,zf⟩:=(sh1.2.2 i hlt).2.at hcn;rw [HGE.out] at k1 e0 e1;have SH1:=hid sh1;have ZF:=hid zf;have hic:(i:Int)≤(cap:Int):=by omega
    obtain ⟨sg,hsg⟩:∃sg,cmpI (X i c) 0=sg:=⟨_,rfl⟩
    have HSG:Hid (∀w',Below w1.heap.size w1 w'→Calls Tryz.prog 39 #[.agg #[.bool nf,.slice af lf cf]] w' fun e w''=>e=.returned (.int .i64 sg)∧Below w'.heap.size w' w''):=fun w' b'=>by
     have:=zoA (ZF.out.now b').zi;rw [hsg] at this;exact this
    have HAR:Hid (∀w',Below w1.heap.size w1 w'→Calls Tryz.prog 40 #[.slice (some ⟨Lb,0,none⟩) i cap,.int .i64 (c:Int),.agg #[.bool nf,.slice af lf cf]] w' (zWI w' X c (X i c) i)):=fun w' b'=>areReduced18 (SH1.out.now b') (Nat.le_of_lt hlt) hm hcn (ZF.out.now b')
    clear HS b IV BB sh1 zf k0 hg h1 h2
    by_cases hcx:(c:Int)<(nx:Int)
    ·have HNF:=hid (HP.out.not_next (m:=m) hlt hcn hz0 hne (by omega))
     clear hne hz0;go_wp2_with fail;have KB:Hid (∀w',Below w1.heap.size w1 w'→w'.cell? ⟨g,c*2,none⟩=some (.bool nf)∧w'.cell? ⟨g,c*2+1,none⟩=some (.slice af lf cf)):=fun w' h=>⟨cnow h e0,cnow h e1⟩
     refine zFA (fun w'=>w'.cell? ⟨g,c*2,none⟩=some (.bool nf)∧w'.cell? ⟨g,c*2+1,none⟩=some (.slice af lf cf)) 22 (by kernel_rfl) ?_;obtain ⟨D11,hD⟩:∃D11,w1.drew=D11:=⟨_,rfl⟩
     have GB:Hid (Below w1.heap.size w1 D11):=by unfold Hid;rw [←hD];exact (Below.refl _ _).drew
     rw [hD];clear hD;refine zBA (i:=0) (oi:=⟨some 21,.move (.tmp 7),3, "lines.go:64",#[],none⟩) (v:=(.int .i64 (c:Int))) rfl (by kernel_rfl) (fun _ _ _ h=>h) (Or.inl ⟨by rfl,?_⟩) (KB.out _ GB.out) ?_
     ·intro w hSw;(try dsimp only at hSw);go_simp
     simp only [Act.put,sIb,sC0,sC1];refine zBA (i:=1) (oi:=⟨some 22,.move (.tmp 4),3, "lines.go:64",#[],none⟩) (v:=(.int .i64 (nx:Int))) rfl (by kernel_rfl) (fun _ _ _ h=>h) (Or.inl ⟨by rfl,?_⟩) (KB.out _ GB.out) ?_
     ·intro w hSw;(try dsimp only at hSw);go_simp
     simp only [Act.put,sIb,sC0,sC1];refine zBA (i:=2) (oi:=⟨some 23,.binOp .lss 3 (.tmp 21) (.tmp 22) 3,4, "lines.go:64",#[⟨0,.data⟩,⟨1,.data⟩],none⟩) (v:=(.bool true)) rfl (by kernel_rfl) (fun _ _ _ h=>h) (Or.inl ⟨by rfl,?_⟩) (KB.out _ GB.out) ?_
     ·intro w hSw;(try dsimp only at hSw);go_simp
     simp only [Act.put,sIb,sC0,sC1];refine zBA (i:=3) (oi:=⟨some 24,.move (.tmp 23),4, "lines.go:64",#[⟨2,.data⟩],none⟩) (v:=(.bool true)) rfl (by kernel_rfl) (fun _ _ _ h=>h) (Or.inl ⟨by rfl,?_⟩) (KB.out _ GB.out) ?_
     ·intro w hSw;(try dsimp only at hSw);go_simp
     simp only [Act.put,sIb,sC0,sC1];refine zBA (i:=4) (oi:=⟨some 25,.move (.tmp 6),22, "lines.go:64",#[⟨3,.guard⟩],some (3,false)⟩) (v:=undef) rfl (by kernel_rfl) (fun _ _ _ h=>h) (Or.inr ⟨by rfl,rfl⟩) (KB.out _ GB.out) ?_;simp only [Act.put,sIb,sC0,sC1];refine zBA (i:=5) (oi:=⟨some 26,.move (.tmp 7),3, "lines.go:64",#[⟨3,.guard⟩],some (3,false)⟩) (v:=undef) rfl (by kernel_rfl) (fun _ _ _ h=>h) (Or.inr ⟨by rfl,rfl⟩) (KB.out _ GB.out) ?_;simp only [Act.put,sIb,sC0,sC1];refine zBA (i:=6) (oi:=⟨some 27,.indexAddr 22 (.tmp 25) (.tmp 26),0, "lines.go:64",#[⟨4,.data⟩,⟨5,.data⟩,⟨3,.guard⟩],some (3,false)⟩) (v:=undef) rfl (by kernel_rfl) (fun _ _ _ h=>h) (Or.inr ⟨by rfl,rfl⟩) (KB.out _ GB.out) ?_;simp only [Act.put,sIb,sC0,sC1];refine zBA (i:=7) (oi:=⟨some 28,.load 41 (.tmp 27),41, "lines.go:64",#[⟨6,.data⟩,⟨3,.guard⟩],some (3,false)⟩) (v:=undef) rfl (by kernel_rfl) (fun _ _ _ h=>h) (Or.inr ⟨by rfl,rfl⟩) (KB.out _ GB.out) ?_;simp only [Act.put,sIb,sC0,sC1];refine zBA (i:=8) (oi:=⟨some 29,.call { callee:=.value (.func 39),args:=#[.tmp 28],argTypes:=#[41] },3, "lines.go:64",#[⟨7,.data⟩,⟨3,.chain⟩,⟨3,.guard⟩],some (3,false)⟩) (v:=undef) rfl (by kernel_rfl) (fun _ _ _ h=>h) (Or.inr ⟨by rfl,rfl⟩) (KB.out _ GB.out) ?_;simp only [Act.put,sIb,sC0,sC1];refine zBA (i:=9) (oi:=⟨some 30,.binOp .lss 3 (.tmp 29) (.const (.int .i64 0)) 3,4, "lines.go:64",#[⟨8,.data⟩,⟨3,.guard⟩],some (3,false)⟩) (v:=undef) rfl (by kernel_rfl) (fun _ _ _ h=>h) (Or.inr ⟨by rfl,rfl⟩) (KB.out _ GB.out) ?_;simp only [Act.put,sIb,sC0,sC1];refine zBA (i:=10) (oi:=⟨some 31,.pick (.tmp 24) (.const (.bool true)) (.tmp 30),4, "lines.go:64",#[⟨3,.data⟩,⟨9,.data⟩],none⟩) (v:=(.bool true)) rfl (by kernel_rfl) (fun _ _ _ h=>h) (Or.inl ⟨by rfl,?_⟩) (KB.out _ GB.out) ?_
     ·intro w hSw;(try dsimp only at hSw);go_simp
     simp only [Act.put,sIb,sC0,sC1];refine zBA (i:=11) (oi:=⟨some 32,.move (.tmp 31),4, "lines.go:64",#[⟨10,.data⟩,⟨8,.chain⟩],none⟩) (v:=(.bool true)) rfl (by kernel_rfl) (fun _ _ _ h=>h) (Or.inl ⟨by rfl,?_⟩) (KB.out _ GB.out) ?_
     ·intro w hSw;(try dsimp only at hSw);go_simp
     simp only [Act.put,sIb,sC0,sC1];refine zBA (i:=12) (oi:=⟨some 33,.move (.tmp 0),51, "lines.go:64",#[⟨11,.guard⟩],some (11,false)⟩) (v:=undef) rfl (by kernel_rfl) (fun _ _ _ h=>h) (Or.inr ⟨by rfl,rfl⟩) (KB.out _ GB.out) ?_;simp only [Act.put,sIb,sC0,sC1];refine zBA (i:=13) (oi:=⟨some 34,.move (.tmp 5),3, "lines.go:64",#[⟨11,.guard⟩],some (11,false)⟩) (v:=undef) rfl (by kernel_rfl) (fun _ _ _ h=>h) (Or.inr ⟨by rfl,rfl⟩) (KB.out _ GB.out) ?_;simp only [Act.put,sIb,sC0,sC1];refine zBA (i:=14) (oi:=⟨some 35,.slice 51 (.tmp 33) none (some (.tmp 34)) none,51, "lines.go:64",#[⟨12,.data⟩,⟨13,.data⟩,⟨11,.guard⟩],some (11,false)⟩) (v:=undef) rfl (by kernel_rfl) (fun _ _ _ h=>h) (Or.inr ⟨by rfl,rfl⟩) (KB.out _ GB.out) ?_;simp only [Act.put,sIb,sC0,sC1];refine zBA (i:=15) (oi:=⟨some 36,.move (.tmp 7),3, "lines.go:64",#[⟨11,.guard⟩],some (11,false)⟩) (v:=undef) rfl (by kernel_rfl) (fun _ _ _ h=>h) (Or.inr ⟨by rfl,rfl⟩) (KB.out _ GB.out) ?_;simp only [Act.put,sIb,sC0,sC1];refine zBA (i:=16) (oi:=⟨some 37,.move (.tmp 6),22, "lines.go:64",#[⟨11,.guard⟩],some (11,false)⟩) (v:=undef) rfl (by kernel_rfl) (fun _ _ _ h=>h) (Or.inr ⟨by rfl,rfl⟩) (KB.out _ GB.out) ?_;simp only [Act.put,sIb,sC0,sC1];refine zBA (i:=17) (oi:=⟨some 38,.move (.tmp 7),3, "lines.go:64",#[⟨11,.guard⟩],some (11,false)⟩) (v:=undef) rfl (by kernel_rfl) (fun _ _ _ h=>h) (Or.inr ⟨by rfl,rfl⟩) (KB.out _ GB.out) ?_;simp only [Act.put,sIb,sC0,sC1];refine zBA (i:=18) (oi:=⟨some 39,.indexAddr 22 (.tmp 37) (.tmp 38),0, "lines.go:64",#[⟨16,.data⟩,⟨17,.data⟩,⟨11,.guard⟩],some (11,false)⟩) (v:=undef) rfl (by kernel_rfl) (fun _ _ _ h=>h) (Or.inr ⟨by rfl,rfl⟩) (KB.out _ GB.out) ?_;simp only [Act.put,sIb,sC0,sC1];refine zBA (i:=19) (oi:=⟨some 40,.load 41 (.tmp 39),41, "lines.go:64",#[⟨18,.data⟩,⟨11,.guard⟩],some (11,false)⟩) (v:=undef) rfl (by kernel_rfl) (fun _ _ _ h=>h) (Or.inr ⟨by rfl,rfl⟩) (KB.out _ GB.out) ?_;simp only [Act.put,sIb,sC0,sC1];refine zBA (i:=20) (oi:=⟨some 41,.call { callee:=.value (.func 40),args:=#[.tmp 35,.tmp 36,.tmp 40],argTypes:=#[51,3,41] },4, "lines.go:64",#[⟨14,.data⟩,⟨15,.data⟩,⟨19,.data⟩,⟨11,.chain⟩,⟨11,.guard⟩],some (11,false)⟩) (v:=undef) rfl (by kernel_rfl) (fun _ _ _ h=>h) (Or.inr ⟨by rfl,rfl⟩) (KB.out _ GB.out) ?_;simp only [Act.put,sIb,sC0,sC1];refine zBA (i:=21) (oi:=⟨some 42,.unOp .not 4 (.tmp 41),4, "lines.go:64",#[⟨20,.data⟩,⟨11,.guard⟩],some (11,false)⟩) (v:=undef) rfl (by kernel_rfl) (fun _ _ _ h=>h) (Or.inr ⟨by rfl,rfl⟩) (KB.out _ GB.out) ?_;simp only [Act.put,sIb,sC0,sC1];refine zAA (i:=22) (o:=⟨some 43,.pick (.tmp 32) (.const (.bool true)) (.tmp 42),4, "lines.go:64",#[⟨11,.data⟩,⟨21,.data⟩],none⟩) (by kernel_rfl) rfl (fun K hK=>?_);go_simp;refine hK.out _ _ (fun h=>absurd h (by decide)) ?_;clear hK
     try simp only [Act.put]
     refine zDA (by kernel_rfl) ?_ _;have FIN:Hid (znC w n m X (.returned (.tuple #[.slice none 0 0,.bool false])) D11):=⟨_,false,rfl,(fun e=>by cases e),fun _=>HNF.out,below_step B1.out GB.out⟩
     clear GB KB HSG HAR k1 e0 e1 SH1 ZF B1 IV1 HP;go_wp2;go_ret2;exact FIN.out
    have hnc:nx≤c:=by omega
    by_cases hsn:sg<0
    ·have hneg:X i c<0:=by
      by_cases p:X i c<0
      ·exact p
      ·exfalso
       rw [←hsg] at hsn;unfold cmpI at hsn;rw [if_neg (by omega)] at hsn
       split at hsn <;> omega
     have HNF:=hid (Hf18.not_neg (m:=m) hlt hcn hz0 hneg);clear hne hz0 hneg hsg;go_wp2_with fail;have KB:Hid (∀w',Below w1.heap.size w1 w'→w'.cell? ⟨g,c*2,none⟩=some (.bool nf)∧w'.cell? ⟨g,c*2+1,none⟩=some (.slice af lf cf)):=fun w' h=>⟨cnow h e0,cnow h e1⟩
     refine zFA (fun w'=>w'.cell? ⟨g,c*2,none⟩=some (.bool nf)∧w'.cell? ⟨g,c*2+1,none⟩=some (.slice af lf cf)) 22 (by kernel_rfl) ?_;obtain ⟨D21,hD⟩:∃D21,w1.drew=D21:=⟨_,rfl⟩
     have GB:Hid (Below w1.heap.size w1 D21):=by unfold Hid;rw [←hD];exact (Below.refl _ _).drew
     rw [hD];clear hD;refine zBA (i:=0) (oi:=⟨some 21,.move (.tmp 7),3, "lines.go:64",#[],none⟩) (v:=(.int .i64 (c:Int))) rfl (by kernel_rfl) (fun _ _ _ h=>h) (Or.inl ⟨by rfl,?_⟩) (KB.out _ GB.out) ?_
     ·intro w hSw;(try dsimp only at hSw);go_simp
     simp only [Act.put,sIb,sC0,sC1];refine zBA (i:=1) (oi:=⟨some 22,.move (.tmp 4),3, "lines.go:64",#[],none⟩) (v:=(.int .i64 (nx:Int))) rfl (by kernel_rfl) (fun _ _ _ h=>h) (Or.inl ⟨by rfl,?_⟩) (KB.out _ GB.out) ?_
     ·intro w hSw;(try dsimp only at hSw);go_simp
     simp only [Act.put,sIb,sC0,sC1];refine zBA (i:=2) (oi:=⟨some 23,.binOp .lss 3 (.tmp 21) (.tmp 22) 3,4, "lines.go:64",#[⟨0,.data⟩,⟨1,.data⟩],none⟩) (v:=(.bool false)) rfl (by kernel_rfl) (fun _ _ _ h=>h) (Or.inl ⟨by rfl,?_⟩) (KB.out _ GB.out) ?_
     ·intro w hSw;(try dsimp only at hSw);go_simp
     simp only [Act.put,sIb,sC0,sC1];refine zBA (i:=3) (oi:=⟨some 24,.move (.tmp 23),4, "lines.go:64",#[⟨2,.data⟩],none⟩) (v:=(.bool false)) rfl (by kernel_rfl) (fun _ _ _ h=>h) (Or.inl ⟨by rfl,?_⟩) (KB.out _ GB.out) ?_
     ·intro w hSw;(try dsimp only at hSw);go_simp
     simp only [Act.put,sIb,sC0,sC1];refine zBA (i:=4) (oi:=⟨some 25,.move (.tmp 6),22, "lines.go:64",#[⟨3,.guard⟩],some (3,false)⟩) (v:=(.slice (some ⟨g,0,none⟩) n n)) rfl (by kernel_rfl) (fun _ _ _ h=>h) (Or.inl ⟨by rfl,?_⟩) (KB.out _ GB.out) ?_
     ·intro w hSw;(try dsimp only at hSw);go_simp
     simp only [Act.put,sIb,sC0,sC1];refine zBA (i:=5) (oi:=⟨some 26,.move (.tmp 7),3, "lines.go:64",#[⟨3,.guard⟩],some (3,false)⟩) (v:=(.int .i64 (c:Int))) rfl (by kernel_rfl) (fun _ _ _ h=>h) (Or.inl ⟨by rfl,?_⟩) (KB.out _ GB.out) ?_
     ·intro w hSw;(try dsimp only at hSw);go_simp
     simp only [Act.put,sIb,sC0,sC1];refine zBA (i:=6) (oi:=⟨some 27,.indexAddr 22 (.tmp 25) (.tmp 26),0, "lines.go:64",#[⟨4,.data⟩,⟨5,.data⟩,⟨3,.guard⟩],some (3,false)⟩) (v:=(.pointer (some ⟨g,c*2,none⟩))) rfl (by kernel_rfl) (fun _ _ _ h=>h) (Or.inl ⟨by rfl,?_⟩) (KB.out _ GB.out) ?_
     ·intro w hSw;(try dsimp only at hSw);go_simp
     simp only [Act.put,sIb,sC0,sC1];refine zBA (i:=7) (oi:=⟨some 28,.load 41 (.tmp 27),41, "lines.go:64",#[⟨6,.data⟩,⟨3,.guard⟩],some (3,false)⟩) (v:=(.agg #[.bool nf,.slice af lf cf])) rfl (by kernel_rfl) (fun _ _ _ h=>h) (Or.inl ⟨by rfl,?_⟩) (KB.out _ GB.out) ?_
     ·intro w hSw;(try dsimp only at hSw);go_simp
     simp only [Act.put,sIb,sC0,sC1];refine zAA (i:=8) (o:=⟨some 29,.call { callee:=.value (.func 39),args:=#[.tmp 28],argTypes:=#[41] },3, "lines.go:64",#[⟨7,.data⟩,⟨3,.chain⟩,⟨3,.guard⟩],some (3,false)⟩) (by kernel_rfl) rfl (fun K hK=>?_);go_simp;go_at_call 39;refine (HSG.out _ GB.out).mono ?_;rintro e w22 ⟨rfl,b⟩;have lz22:=(show Below _ _ _ from b).size;replace GB:=hid (below_step GB.out b);clear b;refine hK.out _ _ (fun _=>KB.out _ GB.out) ?_;clear hK;refine zBA (i:=9) (oi:=⟨some 30,.binOp .lss 3 (.tmp 29) (.const (.int .i64 0)) 3,4, "lines.go:64",#[⟨8,.data⟩,⟨3,.guard⟩],some (3,false)⟩) (v:=(.bool true)) rfl (by kernel_rfl) (fun _ _ _ h=>h) (Or.inl ⟨by rfl,?_⟩) (KB.out _ GB.out) ?_
     ·intro w hSw;(try dsimp only at hSw);go_simp
     simp only [Act.put,sIb,sC0,sC1];refine zBA (i:=10) (oi:=⟨some 31,.pick (.tmp 24) (.const (.bool true)) (.tmp 30),4, "lines.go:64",#[⟨3,.data⟩,⟨9,.data⟩],none⟩) (v:=(.bool true)) rfl (by kernel_rfl) (fun _ _ _ h=>h) (Or.inl ⟨by rfl,?_⟩) (KB.out _ GB.out) ?_
     ·intro w hSw;(try dsimp only at hSw);go_simp
     simp only [Act.put,sIb,sC0,sC1];refine zBA (i:=11) (oi:=⟨some 32,.move (.tmp 31),4, "lines.go:64",#[⟨10,.data⟩,⟨8,.chain⟩],none⟩) (v:=(.bool true)) rfl (by kernel_rfl) (fun _ _ _ h=>h) (Or.inl ⟨by rfl,?_⟩) (KB.out _ GB.out) ?_
     ·intro w hSw;(try dsimp only at hSw);go_simp
     simp only [Act.put,sIb,sC0,sC1];refine zBA (i:=12) (oi:=⟨some 33,.move (.tmp 0),51, "lines.go:64",#[⟨11,.guard⟩],some (11,false)⟩) (v:=undef) rfl (by kernel_rfl) (fun _ _ _ h=>h) (Or.inr ⟨by rfl,rfl⟩) (KB.out _ GB.out) ?_;simp only [Act.put,sIb,sC0,sC1];refine zBA (i:=13) (oi:=⟨some 34,.move (.tmp 5),3, "lines.go:64",#[⟨11,.guard⟩],some (11,false)⟩) (v:=undef) rfl (by kernel_rfl) (fun _ _ _ h=>h) (Or.inr ⟨by rfl,rfl⟩) (KB.out _ GB.out) ?_;simp only [Act.put,sIb,sC0,sC1];refine zBA (i:=14) (oi:=⟨some 35,.slice 51 (.tmp 33) none (some (.tmp 34)) none,51, "lines.go:64",#[⟨12,.data⟩,⟨13,.data⟩,⟨11,.guard⟩],some (11,false)⟩) (v:=undef) rfl (by kernel_rfl) (fun _ _ _ h=>h) (Or.inr ⟨by rfl,rfl⟩) (KB.out _ GB.out) ?_;simp only [Act.put,sIb,sC0,sC1];refine zBA (i:=15) (oi:=⟨some 36,.move (.tmp 7),3, "lines.go:64",#[⟨11,.guard⟩],some (11,false)⟩) (v:=undef) rfl (by kernel_rfl) (fun _ _ _ h=>h) (Or.inr ⟨by rfl,rfl⟩) (KB.out _ GB.out) ?_;simp only [Act.put,sIb,sC0,sC1];refine zBA (i:=16) (oi:=⟨some 37,.move (.tmp 6),22, "lines.go:64",#[⟨11,.guard⟩],some (11,false)⟩) (v:=undef) rfl (by kernel_rfl) (fun _ _ _ h=>h) (Or.inr ⟨by rfl,rfl⟩) (KB.out _ GB.out) ?_;simp only [Act.put,sIb,sC0,sC1];refine zBA (i:=17) (oi:=⟨some 38,.move (.tmp 7),3, "lines.go:64",#[⟨11,.guard⟩],some (11,false)⟩) (v:=undef) rfl (by kernel_rfl) (fun _ _ _ h=>h) (Or.inr ⟨by rfl,rfl⟩) (KB.out _ GB.out) ?_;simp only [Act.put,sIb,sC0,sC1];refine zBA (i:=18) (oi:=⟨some 39,.indexAddr 22 (.tmp 37) (.tmp 38),0, "lines.go:64",#[⟨16,.data⟩,⟨17,.data⟩,⟨11,.guard⟩],some (11,false)⟩) (v:=undef) rfl (by kernel_rfl) (fun _ _ _ h=>h) (Or.inr ⟨by rfl,rfl⟩) (KB.out _ GB.out) ?_;simp only [Act.put,sIb,sC0,sC1];refine zBA (i:=19) (oi:=⟨some 40,.load 41 (.tmp 39),41, "lines.go:64",#[⟨18,.data⟩,⟨11,.guard⟩],some (11,false)⟩) (v:=undef) rfl (by kernel_rfl) (fun _ _ _ h=>h) (Or.inr ⟨by rfl,rfl⟩) (KB.out _ GB.out) ?_;simp only [Act.put,sIb,sC0,sC1];refine zBA (i:=20) (oi:=⟨some 41,.call { callee:=.value (.func 40),args:=#[.tmp 35,.tmp 36,.tmp 40],argTypes:=#[51,3,41] },4, "lines.go:64",#[⟨14,.data⟩,⟨15,.data⟩,⟨19,.data⟩,⟨11,.chain⟩,⟨11,.guard⟩],some (11,false)⟩) (v:=undef) rfl (by kernel_rfl) (fun _ _ _ h=>h) (Or.inr ⟨by rfl,rfl⟩) (KB.out _ GB.out) ?_;simp only [Act.put,sIb,sC0,sC1];refine zBA (i:=21) (oi:=⟨some 42,.unOp .not 4 (.tmp 41),4, "lines.go:64",#[⟨20,.data⟩,⟨11,.guard⟩],some (11,false)⟩) (v:=undef) rfl (by kernel_rfl) (fun _ _ _ h=>h) (Or.inr ⟨by rfl,rfl⟩) (KB.out _ GB.out) ?_;simp only [Act.put,sIb,sC0,sC1];refine zAA (i:=22) (o:=⟨some 43,.pick (.tmp 32) (.const (.bool true)) (.tmp 42),4, "lines.go:64",#[⟨11,.data⟩,⟨21,.data⟩],none⟩) (by kernel_rfl) rfl (fun K hK=>?_);go_simp;refine hK.out _ _ (fun h=>absurd h (by decide)) ?_;clear hK
     try simp only [Act.put]
     refine zDA (by kernel_rfl) ?_ _;have FIN:Hid (znC w n m X (.returned (.tuple #[.slice none 0 0,.bool false])) w22):=⟨_,false,rfl,(fun e=>by cases e),fun _=>HNF.out,below_step B1.out GB.out⟩
     clear GB KB HSG HAR k1 e0 e1 SH1 ZF B1 IV1 HP;go_wp2;go_ret2;exact FIN.out
    have hpos:0<X i c:=by
     rcases Int.lt_trichotomy (X i c) 0 with p | p | p
     ·exfalso
      rw [←hsg,zZA p] at hsn;omega
     ·exact absurd p hne
     ·exact p
    have HPO:=hid hpos;clear hne hz0 hsg hpos;go_wp2_with fail;have KB:Hid (∀w',Below w1.heap.size w1 w'→w'.cell? ⟨g,c*2,none⟩=some (.bool nf)∧w'.cell? ⟨g,c*2+1,none⟩=some (.slice af lf cf)):=fun w' h=>⟨cnow h e0,cnow h e1⟩
    refine zFA (fun w'=>w'.cell? ⟨g,c*2,none⟩=some (.bool nf)∧w'.cell? ⟨g,c*2+1,none⟩=some (.slice af lf cf)) 22 (by kernel_rfl) ?_;obtain ⟨D31,hD⟩:∃D31,w1.drew=D31:=⟨_,rfl⟩
    have GB:Hid (Below w1.heap.size w1 D31):=by unfold Hid;rw [←hD];exact (Below.refl _ _).drew
    rw [hD];clear hD;refine zIA [(0,(.int .i64 (c:Int))),(1,(.int .i64 (nx:Int))),(2,(.bool false)),(3,(.bool false)),(4,(.slice (some ⟨g,0,none⟩) n n)),(5,(.int .i64 (c:Int))),(6,(.pointer (some ⟨g,c*2,none⟩))),(7,(.agg #[.bool nf,.slice af lf cf]))] 8 ?_ (KB.out _ GB.out) ?_
    ·simp only [zVA,gA9,g09,g19,Act.put,sI9,s09,s19]
     (repeat' (first | exact trivial | refine And.intro (Or.inl ⟨by rfl,?_⟩) ?_)) <;> (intro w hSw;(try dsimp only at hSw);go_simp)
    simp only [actV,gA9,g09,g19,Act.put,sI9,s09,s19];refine zAA (i:=8) (o:=⟨some 29,.call { callee:=.value (.func 39),args:=#[.tmp 28],argTypes:=#[41] },3, "lines.go:64",#[⟨7,.data⟩,⟨3,.chain⟩,⟨3,.guard⟩],some (3,false)⟩) (by kernel_rfl) rfl (fun K hK=>?_);go_simp;go_at_call 39;refine (HSG.out _ GB.out).mono ?_;rintro e w32 ⟨rfl,b⟩;have lz32:=(show Below _ _ _ from b).size;replace GB:=hid (below_step GB.out b);clear b;refine hK.out _ _ (fun _=>KB.out _ GB.out) ?_;clear hK;refine zIA [(9,(.bool false)),(10,(.bool false)),(11,(.bool false)),(12,(.slice (some ⟨Lb,0,none⟩) m cap)),(13,(.int .i64 (i:Int))),(14,(.slice (some ⟨Lb,0,none⟩) i cap)),(15,(.int .i64 (c:Int))),(16,(.slice (some ⟨g,0,none⟩) n n)),(17,(.int .i64 (c:Int))),(18,(.pointer (some ⟨g,c*2,none⟩))),(19,(.agg #[.bool nf,.slice af lf cf]))] 11 ?_ (KB.out _ GB.out) ?_
    ·simp only [zVA,gA9,g09,g19,Act.put,sI9,s09,s19]
     (repeat' (first | exact trivial | refine And.intro (Or.inl ⟨by rfl,?_⟩) ?_)) <;> (intro w hSw;(try dsimp only at hSw);go_simp)
    simp only [actV,gA9,g09,g19,Act.put,sI9,s09,s19];refine zAA (i:=20) (o:=⟨some 41,.call { callee:=.value (.func 40),args:=#[.tmp 35,.tmp 36,.tmp 40],argTypes:=#[51,3,41] },4, "lines.go:64",#[⟨14,.data⟩,⟨15,.data⟩,⟨19,.data⟩,⟨11,.chain⟩,⟨11,.guard⟩],some (11,false)⟩) (by kernel_rfl) rfl (fun K hK=>?_);go_simp;go_at_call 40;refine (HAR.out _ GB.out).mono ?_;rintro e w33 ⟨bc,rfl,hbc,b⟩;have lz33:=(show Below _ _ _ from b).size;replace GB:=hid (below_step GB.out b);have HBC:=hid hbc;clear hbc;clear b;refine hK.out _ _ (fun _=>KB.out _ GB.out) ?_;clear hK;refine zIA [(21,(.bool (!bc)))] 1 ?_ (KB.out _ GB.out) ?_
    ·simp only [zVA,gA9,g09,g19,Act.put,sI9,s09,s19]
     (repeat' (first | exact trivial | refine And.intro (Or.inl ⟨by rfl,?_⟩) ?_)) <;> (intro w hSw;(try dsimp only at hSw);go_simp)
    simp only [actV,gA9,g09,g19,Act.put,sI9,s09,s19];refine zAA (i:=22) (o:=⟨some 43,.pick (.tmp 32) (.const (.bool true)) (.tmp 42),4, "lines.go:64",#[⟨11,.data⟩,⟨21,.data⟩],none⟩) (by kernel_rfl) rfl (fun K hK=>?_);go_simp;refine hK.out _ _ (fun h=>absurd h (by decide)) ?_;clear hK
    try simp only [Act.put]
    refine zDA (by kernel_rfl) ?_ _;have B2:=hid (below_step B1.out GB.out);have IV2:=hid (IV1.out.now GB.out);clear GB KB HSG HAR k1 e0 e1 SH1 ZF B1 IV1;rcases Bool.eq_false_or_eq_true bc with hbt | hbf
    ·subst hbt
     have hred:=HBC.out.1 rfl;have hpv:=HP.out.piv hcn HZ0.out HPO.out (by omega) hred;obtain rfl:r=i:=hpv.1;have HPV:=hid hpv.2;clear hpv hred;obtain ⟨V,hV⟩:∃V,w33.alloc (.cells #[.int .i64 (c:Int)] 3)=V:=⟨_,rfl⟩
     obtain ⟨bv,szv⟩:=alo1 w33 (.cells #[.int .i64 (c:Int)] 3);rw [hV] at bv szv;have CV:Hid (V.cell? ⟨w33.heap.size,0,none⟩=some (.int .i64 (c:Int))):=by unfold Hid;rw [←hV];exact (Cel.new w33 3 [.int .i64 (c:Int)]).at (i:=0) rfl
     have BV:=hid (below_step B2.out bv);have IV3:=hid (IV2.out.now bv);have HL:Hid ((zhB γ r).length≤1000000):=by unfold Hid;rw [zhA];omega
     have EV:=hid hV;have hwc:=zYA (i:=c) (by omega);clear bv szv hV B2 IV2;go_wp2_with (at_builtin;rw [EV.out];refine zxA V rfl (.tmp 44) (.tmp 46) rfl w.heap.size _ _ c rfl IV3.out w33.heap.size rfl CV.out HL.out BV.out.size ?_)
     intro g' cap' w3 hI hg hb;rw [HLL.out] at hI ⊢;have HN1:Hid (zXH w m n X (m-(r+1)) (.slice (some ⟨g',0,none⟩) (ll+1) cap') (.int .i64 ((c+1:Nat):Int)) (.int .i64 ((r+1:Nat):Int)) w3):=by
      refine ⟨r+1,c+1,_,_,rfl,rfl,by omega,rfl,by omega,HPV.out,?_,zRC BV.out BV.out.size IV3.out hg.out⟩;rw [zuC];exact hI.out
     clear hI hg hb IV3 BV CV HL EV;go_wp2_with fail;go_roundg (m-(r+1))
     case rel=>exact HN1.out
     case measure=>exact HMM.out
    ·subst hbf
     have HNF:Hid (¬Hf18 n m X):=by
      have hnr:¬ ∀t,t<i→0≤X t c∧X t c<X i c:=fun hh=>by have:=HBC.out.2 hh;simp at this
      intro hf;refine hnr fun t ht=>Classical.byContradiction fun hk=>Hf18.not_red (m:=m) hlt hcn HZ0.out (by have:=HPO.out;omega) ht hk hf
     have FIN:Hid (znC w n m X (.returned (.tuple #[.slice none 0 0,.bool false])) w33):=⟨_,false,rfl,(fun e=>by cases e),fun _=>HNF.out,B2.out⟩
     clear B2 IV2 HP;go_wp2;go_ret2;exact FIN.out
  ·have hlt':¬(i:Int)<(m:Int):=by omega
   obtain rfl:i=m:=by omega
   have FIN:Hid (znC w n i X (.returned (.tuple #[.slice aa ll cc,.bool true])) wr):=⟨_,true,rfl,fun _=>⟨r,γ,HP.out.ec,HP.out.rd,IV.out⟩,(fun e=>by cases e),BB.out⟩
   clear IV BB HG HLA SH HP;go_wp2;go_ret2;exact FIN.out
end Go.Proofs.YtefpboopafdhpaaGreat
