import Derived.Test.YtjnokjgbeploaaaGreatQEach9ToColsP9
set_option maxRecDepth 100000
set_option maxHeartbeats 6400000
set_option linter.unusedVariables false
set_option linter.unusedSimpArgs false
namespace Go.Proofs.YtjnokjgbeploaaaGreat
open Go.RowKit
def ColH (w2:World) (g r c:Nat) (ps:List (Value×Value)) (gk:Nat) (s:Value) (wx:World):Prop :=
 ∃i:Nat,s=.int .i64 (i:Int)∧i≤r∧gk=r-i∧∃vs,zHC w2 wx g c i 0 ps vs
def ColJ (w2:World) (g r c i:Nat) (ps:List (Value×Value)) (gk:Nat) (s:Value) (wx:World):Prop :=
 ∃j:Nat,s=.int .i64 (j:Int)∧j≤c∧gk=c-j∧∃vs,zHC w2 wx g c i j ps vs
theorem zJG {ps:List (Value×Value)} {r c i j:Nat} (hl:ps.length=r*c) (hi:i<r) (hj:j<c):((ps.drop (i*c)).take c)[j]?=some (ps.getD (i*c+j) zqA)∧ps.getD (i*c+j) zqA∈ps:=by
 have h5:(i+1)*c≤r*c:=Nat.mul_le_mul_right c hi;have h6:(i+1)*c=i*c+c:=by rw [Nat.add_mul,Nat.one_mul]
 have h7:i*c+j<ps.length:=by omega
 have e:ps.getD (i*c+j) zqA=ps[i*c+j]:=by simp [h7]
 rw [e];refine ⟨?_,List.getElem_mem h7⟩;rw [List.getElem?_take,if_pos hj,List.getElem?_drop,List.getElem?_eq_getElem h7]
theorem zgC {w:World} {B r c:Nat} {at_:Value} {ps:List (Value×Value)} (ha:Prs B w at_ ps) (hl:ps.length=r*c) (hI:∀p∈ps,IsI p) (hr:r≤64) (hc:c≤64) :
  Calls Tryz.prog 39 #[matv r c at_] w (zAI w w.heap.size (colsL r c ps zqA)):=by
 have A0:=hid ha;obtain ⟨a0,c0,rfl,hc0,hn0,-,hf0⟩:=ha.form;obtain ⟨n,hn⟩:∃n,ps.length=n:=⟨_,rfl⟩
 have HL:=hid hl;have HI:=hid hI;rw [hn] at A0 hc0 hn0 ⊢;clear ha hf0 hl hn hI;obtain ⟨W0,hW⟩:∃W0,w.alloc (.cells #[.int .i64 (r:Int),.int .i64 (c:Int),.slice a0 n c0] 24)=W0:=⟨_,rfl⟩
 obtain ⟨b0,sz0⟩:=alo1 w (.cells #[.int .i64 (r:Int),.int .i64 (c:Int),.slice a0 n c0] 24);rw [hW] at b0 sz0;have P1:Hid (Cel W0 w.heap.size 24 (matc r c (.slice a0 n c0))):=by unfold Hid;rw [←hW];exact Cel.new w _ _
 have c1:(w.alloc (.cells #[.int .i64 (r:Int),.int .i64 (c:Int),.slice a0 n c0] 24)).cell? ⟨w.heap.size,1,none⟩=some (.int .i64 (c:Int)):=by rw [hW];exact P1.out.at (i:=1) rfl
 have G0:=hid b0;have EW:=hid hW;have SZ:=hid sz0;clear b0 hW sz0;go_enter Tryz.func39,Tryz.ntmps39;go_wp2_with (at_make;rw [EW.out];refine zpA _ rfl _ _ rfl _ _ c c rfl rfl rfl rfl (Nat.le_refl _) (by omega) ?_)
 intro w1 hrow hb1 hsz1;have HGE:Hid (w.heap.size<W0.heap.size):=by unfold Hid;rw [SZ.out];omega
 have P11:=hid (P1.out.step hb1);have G1:=hid (zBA G0.out hb1);have R1:=hid hrow;have HS:=hid (zbD (w:=w1) A0.out HL.out hr hc);have k0:=P11.out.at (i:=0) rfl;have k1:=P11.out.at (i:=1) rfl;have k2:=P11.out.at (i:=2) rfl;have HG1:Hid (W0.heap.size<w1.heap.size):=by unfold Hid;have:=hsz1.out;omega
 generalize W0.heap.size=g at *;clear hrow hb1 hsz1 P1 G0 EW SZ c1;go_wp2_with fail;refine HS.out.mono ?_;rintro e w2 ⟨br,rfl,hbr,hbl,hrows,b⟩;have RW:=hid hrows;have HBR:Hid (br≠g):=by unfold Hid;have:=HG1.out;omega
 have G2:=hid (zBA G1.out b);have R2:Hid (zjE w2 g (List.replicate c (.slice none 0 0))):=R1.out.step b;have H0:Hid (ColH w2 g r c ps r (.int .i64 0) w2):=⟨0,rfl,Nat.zero_le _,by omega,_,zHC.start ps R2.out (Kp.refl _ _ _)⟩
 clear HS R1 R2 P11 G1 HG1 hrows b k0 k1 k2 hbr hbl;go_wp2_with fail
 go_loopg [14] r (fun gk s14 wx=>ColH w2 g r c ps gk s14 wx)
 case atStart=>exact H0.out
 case round =>
  clear H0;obtain ⟨i,rfl,hin,hg,vs,hci⟩:=hrel;have CI:=hid hci;have HG:=hid hg;clear hg hci
  by_cases hlt:i<r
  ·have hlt':(i:Int)<(r:Int):=by omega
   obtain ⟨ai,ci,k0',hpi⟩:=RW.out i hlt;have k0:=CI.out.kp.cell HBR.out k0';have PI:=hid hpi;have hw:=zNA (i:=i) (by omega);have H1:Hid (ColJ w2 g r c i ps c (.int .i64 0) wr):=⟨0,rfl,Nat.zero_le _,by omega,vs,CI.out⟩
   have HMM:Hid (r-(i+1)<gk):=by unfold Hid;rw [HG.out];omega
   clear k0' hpi CI HG;go_wp2_with fail
   go_loopg [20] c (fun gk s20 wx=>ColJ w2 g r c i ps gk s20 wx)
   case atStart=>exact H1.out
   case round =>
    clear H1 k0;obtain ⟨j,rfl,hjn,hg,us,hci⟩:=hrel;have CI:=hid hci;have HG:=hid hg;clear hg hci
    by_cases hlt2:j<c
    ·have hlt2':(j:Int)<(c:Int):=by omega
     have hw2:=zNA (i:=j) (by omega);have GW:=hid (CI.out.kp.below G2.out (Nat.le_of_lt HGE.out));obtain ⟨hpa,hpm⟩:=zJG (i:=i) (j:=j) HL.out hlt hlt2;obtain ⟨nf,af,lf,cf,epf⟩:=HI.out _ hpm;obtain ⟨bi,oi,rfl⟩:∃bi oi,ai=some ⟨bi,oi,none⟩:=by
      obtain ⟨a',c',e1,-,-,-,e2⟩:=PI.out.form;obtain ⟨bi,oi,e3,-⟩:=e2 (fun e=>by rw [e] at hpa;simp at hpa);simp only [Value.slice.injEq] at e1;exact ⟨bi,oi,by rw [e1.1,e3]⟩
     obtain ⟨l0,l1⟩:=(PI.out.now GW.out).at hpa;rw [epf] at l0 l1;dsimp only at l0 l1;have EP:=hid epf;clear hpa hpm epf;obtain ⟨V1,hV⟩:∃V1,wr.alloc (duo (.bool nf) (.slice af lf cf))=V1:=⟨_,rfl⟩
     obtain ⟨b1,sz1⟩:=alo1 wr (duo (.bool nf) (.slice af lf cf));rw [hV] at b1 sz1;have PN:Hid (Duo V1 wr.heap.size (.bool nf) (.slice af lf cf)):=by unfold Hid;rw [←hV];exact Duo.new wr _ _
     have hus:us[j]?=some (us[j]'(by rw [CI.out.len];exact hlt2)):=List.getElem?_eq_getElem (by rw [CI.out.len];exact hlt2);obtain ⟨u,hu⟩:∃u,us[j]'(by rw [CI.out.len];exact hlt2)=u:=⟨_,rfl⟩
     rw [hu] at hus;have US:=hid hus;have CV:=hid (CI.out.step b1);have OW:=hid (CV.out.own j u hus);rw [show clen i j j=i by simp [clen]] at OW;obtain ⟨au,lu,cu,rfl⟩:∃au lu cu,u=.slice au lu cu:=by
      obtain ⟨-,⟨q,-⟩ | ⟨gq,capq,curq,q,-⟩⟩:=OW.out
      ·exact ⟨_,_,_,q⟩
      ·exact ⟨_,_,_,q⟩
     have OWV:Hid (OwnP w2.heap.size wr (.slice au lu cu) (colL c ps zqA i j)):=by
      have q:=CI.out.own j _ hus;rw [show clen i j j=i by simp [clen]] at q;exact q
     have e0:=CV.out.row.at hus;have n0:=PN.out.c0;have n1:=PN.out.c1;have SZ1:=hid sz1;have EV:=hid hV;clear hu hus CI b1 sz1 hV;go_wp2_with fail;rw [EV.out];have KB:Hid (∀w',Below V1.heap.size V1 w'→w'.cell? ⟨g,j,none⟩=some (.slice au lu cu)∧w'.cell? ⟨wr.heap.size,0,none⟩=some (.bool nf)∧w'.cell? ⟨wr.heap.size,1,none⟩=some (.slice af lf cf)):=fun w' h=>⟨cnow h e0,cnow h n0,cnow h n1⟩
     refine zDA (fun w'=>w'.cell? ⟨g,j,none⟩=some (.slice au lu cu)∧w'.cell? ⟨wr.heap.size,0,none⟩=some (.bool nf)∧w'.cell? ⟨wr.heap.size,1,none⟩=some (.slice af lf cf)) 10 (by kernel_rfl) ?_;obtain ⟨D1,hD⟩:∃D1,V1.drew=D1:=⟨_,rfl⟩
     have GB:Hid (Below V1.heap.size V1 D1):=by unfold Hid;rw [←hD];exact (Below.refl _ _).drew
     rw [hD];clear hD;replace CV:=hid (CV.out.step GB.out);replace OW:=hid (OW.out.keep (fun b _ hb=>GB.out.block b hb));have PN1:=hid (PN.out.step GB.out);have lzD:=GB.out.size;refine zAA (i:=0) (oi:=⟨some 25,.move (.tmp 3),48, "lines.go:48",#[],none⟩) (v:=(.slice (some ⟨g,0,none⟩) c c)) rfl (by kernel_rfl) (fun _ _ _ h=>h) (Or.inl ⟨by rfl,?_⟩) (KB.out _ GB.out) ?_
     ·intro w hSw;(try dsimp only at hSw);go_simp
     simp only [Act.put,sIb,sC0,sC1];refine zAA (i:=1) (oi:=⟨some 26,.move (.tmp 6),3, "lines.go:48",#[],none⟩) (v:=(.int .i64 (j:Int))) rfl (by kernel_rfl) (fun _ _ _ h=>h) (Or.inl ⟨by rfl,?_⟩) (KB.out _ GB.out) ?_
     ·intro w hSw;(try dsimp only at hSw);go_simp
     simp only [Act.put,sIb,sC0,sC1];refine zAA (i:=2) (oi:=⟨some 27,.move (.tmp 3),48, "lines.go:48",#[],none⟩) (v:=(.slice (some ⟨g,0,none⟩) c c)) rfl (by kernel_rfl) (fun _ _ _ h=>h) (Or.inl ⟨by rfl,?_⟩) (KB.out _ GB.out) ?_
     ·intro w hSw;(try dsimp only at hSw);go_simp
     simp only [Act.put,sIb,sC0,sC1];refine zAA (i:=3) (oi:=⟨some 28,.move (.tmp 6),3, "lines.go:48",#[],none⟩) (v:=(.int .i64 (j:Int))) rfl (by kernel_rfl) (fun _ _ _ h=>h) (Or.inl ⟨by rfl,?_⟩) (KB.out _ GB.out) ?_
     ·intro w hSw;(try dsimp only at hSw);go_simp
     simp only [Act.put,sIb,sC0,sC1];refine zAA (i:=4) (oi:=⟨some 29,.indexAddr 48 (.tmp 27) (.tmp 28),0, "lines.go:48",#[⟨2,.data⟩,⟨3,.data⟩],none⟩) (v:=(.pointer (some ⟨g,j,none⟩))) rfl (by kernel_rfl) (fun _ _ _ h=>h) (Or.inl ⟨by rfl,?_⟩) (KB.out _ GB.out) ?_
     ·intro w hSw;(try dsimp only at hSw);go_simp
     simp only [Act.put,sIb,sC0,sC1];refine zAA (i:=5) (oi:=⟨some 30,.load 22 (.tmp 29),22, "lines.go:48",#[⟨4,.data⟩],none⟩) (v:=(.slice au lu cu)) rfl (by kernel_rfl) (fun _ _ _ h=>h) (Or.inl ⟨by rfl,?_⟩) (KB.out _ GB.out) ?_
     ·intro w hSw;(try dsimp only at hSw);go_simp
     simp only [Act.put,sIb,sC0,sC1];refine zAA (i:=6) (oi:=⟨some 31,.load 39 (.tmp 7),39, "lines.go:48",#[],none⟩) (v:=(.agg #[.bool nf,.slice af lf cf])) rfl (by kernel_rfl) (fun _ _ _ h=>h) (Or.inl ⟨by rfl,?_⟩) (KB.out _ GB.out) ?_
     ·intro w hSw;(try dsimp only at hSw);go_simp
     simp only [Act.put,sIb,sC0,sC1];refine zCA (i:=7) (o:=⟨some 32,.buildSlice 22 1 #[(0,.tmp 31)],22, "lines.go:48",#[⟨6,.data⟩],none⟩) (by kernel_rfl) rfl (fun K hK=>?_);go_simp;obtain ⟨V3,hW⟩:∃V3,D1.alloc (duo (.bool nf) (.slice af lf cf))=V3:=⟨_,rfl⟩
     obtain ⟨b,sz9⟩:=alo1 D1 (duo (.bool nf) (.slice af lf cf));rw [hW] at b sz9;replace GB:=hid (zBA GB.out b);have PB:Hid (Duo V3 D1.heap.size (.bool nf) (.slice af lf cf)):=by unfold Hid;rw [←hW];exact Duo.new D1 _ _
     replace CV:=hid (CV.out.step b);replace OW:=hid (OW.out.keep (fun b1 _ hb=>b.block b1 hb));replace PN1:=hid (PN1.out.step b);have BS:Hid (w2.heap.size≤V3.heap.size):=CV.out.kp.size;rw [hW];clear hW b sz9;refine hK.out _ _ (fun _=>KB.out _ GB.out) ?_;clear hK
     try simp only [Act.put]
     refine zCA (i:=8) (o:=⟨some 33,.call { callee:=.builtin .append,args:=#[.tmp 30,.tmp 32],argTypes:=#[22,22] },22, "lines.go:48",#[⟨5,.data⟩,⟨7,.data⟩],none⟩) (by kernel_rfl) rfl (fun K hK=>?_);refine zAB _ rfl (.tmp 30) (.tmp 32) rfl w2.heap.size (.slice au lu cu) (colL c ps zqA i j) rfl OW.out D1.heap.size (.bool nf) (.slice af lf cf) rfl PB.out.c0 PB.out.c1 ⟨nf,af,lf,cf,rfl⟩ (by rw [zHB];omega) BS.out ?_;intro g9 l9 cap9 w9 hl9 ho9 hg9 hw9;clear hl9;rw [←EP.out] at ho9;have NX:=hid (CV.out.next hlt2 US.out ho9.out hg9.out hw9.out);have hgw:g<V3.heap.size:=CV.out.row.blk;have RW9:Hid (zjE w9 g us):=(hg9.out.block g hgw (fun e=>CV.out.off j _ US.out e.symm)).trans CV.out.row;have PN9:Hid (Duo w9 wr.heap.size (.bool nf) (.slice af lf cf)):=(hg9.out.block wr.heap.size PN1.out.blk (fun e=>by
      have h1:=(World.ownsRow.lt OW.out wr.heap.size e.symm)
      have h2:=(World.ownsRow.lt OWV.out wr.heap.size e.symm)
      have:=h2.2;omega)).trans PN1.out
     have SW9:=hid (And.intro (RW9.out.at US.out) (And.intro PN9.out.c0 PN9.out.c1));refine hK.out _ _ (fun _=>SW9.out) ?_;clear hK
     try simp only [Act.put]
     refine zAA (i:=9) (oi:=⟨some 34,.indexAddr 48 (.tmp 25) (.tmp 26),0, "lines.go:48",#[⟨0,.data⟩,⟨1,.data⟩,⟨0,.phase⟩,⟨1,.phase⟩,⟨2,.phase⟩,⟨3,.phase⟩,⟨4,.phase⟩,⟨5,.phase⟩,⟨6,.phase⟩,⟨7,.phase⟩,⟨8,.phase⟩],none⟩) (v:=(.pointer (some ⟨g,j,none⟩))) rfl (by kernel_rfl) (fun _ _ _ h=>h) (Or.inl ⟨by rfl,?_⟩) (SW9.out) ?_
     ·intro w hSw;(try dsimp only at hSw);go_simp
     simp only [Act.put,sIb,sC0,sC1];refine zCA (i:=10) (o:=⟨none,.store 22 (.tmp 34) (.tmp 33),0, "lines.go:48",#[⟨9,.data⟩,⟨8,.data⟩,⟨8,.chain⟩,⟨0,.phase⟩,⟨1,.phase⟩,⟨2,.phase⟩,⟨3,.phase⟩,⟨4,.phase⟩,⟨5,.phase⟩,⟨6,.phase⟩,⟨7,.phase⟩,⟨8,.phase⟩],none⟩) (by kernel_rfl) rfl (fun K hK=>?_);have e5:=RW9.out.at US.out;have e6:w9.frozen? ⟨g,j,none⟩=false:=RW9.out.fz j;go_simp;clear e5 e6;obtain ⟨V3,hW⟩:∃V3,(w9.setCell ⟨g,j,none⟩ (.slice (some ⟨g9,0,none⟩) l9 cap9))=V3:=⟨_,rfl⟩
     have HN1:Hid (ColJ w2 g r c i ps (c-(j+1)) (.int .i64 ((j+1:Nat):Int)) V3):=by
      unfold Hid;rw [←hW];exact ⟨j+1,rfl,by omega,rfl,_,NX.out⟩
     rw [hW];clear hW;refine hK.out _ _ (fun h=>absurd h (by decide)) ?_;clear hK
     try simp only [Act.put]
     refine zFA (by kernel_rfl) ?_ _;have HM2:Hid (c-(j+1)<gk):=by unfold Hid;rw [HG.out];omega
     clear NX CV OW PN PN1 RW9 PN9 PB BS US EP EV GB KB HG ho9 hg9 hw9 hgw OWV SW9;go_wp2_with fail;go_roundg (c-(j+1))
     case rel=>exact HN1.out
     case measure=>exact HM2.out
    ·have hlt2':¬(j:Int)<(c:Int):=by omega
     obtain rfl:j=c:=by omega
     have HN1:Hid (ColH w2 g r j ps (r-(i+1)) (.int .i64 ((i+1:Nat):Int)) wr):=⟨i+1,rfl,by omega,rfl,us,CI.out.row_end⟩
     clear CI HG;go_wp2_with fail;go_roundg (r-(i+1))
     case rel=>exact HN1.out
     case measure=>exact HMM.out
  ·have hlt':¬(i:Int)<(r:Int):=by omega
   obtain rfl:i=r:=by omega
   have FIN:Hid (zAI w w.heap.size (colsL i c ps zqA) (.returned (.slice (some ⟨g,0,none⟩) c c)) wr):=⟨_,rfl,(CI.out.done hc hr).mono G2.out.size,CI.out.kp.below G2.out (Nat.le_of_lt HGE.out)⟩
   clear CI HG;go_wp2;go_ret;exact FIN.out
end Go.Proofs.YtjnokjgbeploaaaGreat
