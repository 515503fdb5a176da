/-
 QUnit9ToDz12: Unit9, Add9, Law9, Wake9, OpenM9, Pr12, Dz12, joined.
-/
import Derived.Test.YtjjpodnjljfheaaGreatQCols9ToMul9
import Derived.Test.YtjjpodnjljfheaaGreatQAlikeToShift
import Derived.Below

set_option maxRecDepth 100000
set_option maxHeartbeats 6400000
set_option linter.unusedVariables false
set_option linter.unusedSimpArgs false
namespace Go.Proofs.YtjjpodnjljfheaaGreat
open Go.RowKit
theorem Arr.ne {w:World} {g b i:Nat} {u:Value} {ps:List (Value×Value)} (h:Arr w g ps) (hne:b≠g):Arr (w.setCell ⟨b,i,none⟩ u) g ps:=⟨h.1.ne hne,h.2⟩
theorem Arr.put3 {w:World} {g b:Nat} {ps:List (Value×Value)} (h:Arr w g ps) (hne:b≠g) (y0 y1 y2:Value):Arr (put3 w b y0 y1 y2) g ps:=((h.ne hne).ne hne).ne hne
def zbH (w:World) (r c n:Nat) (e:Ending) (w':World):Prop:=∃g,e=.returned (.tuple #[matv r c (.slice (some ⟨g,0,none⟩) n n),.int .i64 0])∧w.heap.size≤g∧Arr w' g (List.replicate n zGB)∧Below w.heap.size w w'
theorem zero_any {w:World} {r c:Nat} (hr:r≤64) (hc:c≤64):Calls Tryz.prog 66 #[.int .i64 (r:Int),.int .i64 (c:Int)] w (zbH w r c (r*c)):=by
 obtain ⟨W0,hW⟩:∃W0,w.alloc mbox=W0:=⟨_,rfl⟩
 obtain ⟨b0,sz0⟩:=alo1 w mbox;rw [hW] at b0 sz0;have P4:=hid (zZB hW);have HS:=hid (zED (w:=W0) hr hc);have hm0:=zJB (i:=r) (c:=c) hr hc;have hrc:r*c≤64*64:=Nat.mul_le_mul hr hc;generalize r*c=n at *;have hm2:=hm0;rw [IntKind.wrap_i64] at hm2;have G0:=hid b0;have EW:=hid hW;have SZ:=hid sz0;clear b0 hW sz0;go_enter Tryz.func66,Tryz.ntmps66;go_wp2_with fail;rw [EW.out];refine HS.out.mono ?_;rintro e w1 ⟨rfl,hw1⟩;have hw1':=hw1.symm;subst hw1';go_wp2_with (at_make;refine zhA _ rfl _ _ rfl _ _ n n rfl rfl rfl rfl (Nat.le_refl _) (by omega) ?_)
 intro w2 hrow hb2 hsz2;have PR:=hid (P4.out.step hb2);have r0:=PR.out.at (i:=0) rfl;have r1:=PR.out.at (i:=1) rfl;have r2:=PR.out.at (i:=2) rfl;have f0:=PR.out.fz 0;have f1:=PR.out.fz 1;have f2:=PR.out.fz 2;have FIN:Hid (zbH w r c n (.returned (.tuple #[.agg #[.int .i64 (r:Int),.int .i64 (c:Int),.slice (some ⟨W0.heap.size,0,none⟩) n n],.int .i64 0])) (put3 w2 w.heap.size (.int .i64 (r:Int)) (.int .i64 (c:Int)) (.slice (some ⟨W0.heap.size,0,none⟩) n n))) :=
  ⟨_,rfl,by have:=SZ.out;omega,hrow.put3 (by have:=SZ.out;omega) _ _ _,zVA (below_step G0.out hb2) (Nat.le_refl _) _ _ _⟩
 have PF:=hid (PR.out.put3 (.int .i64 (r:Int)) (.int .i64 (c:Int)) (.slice (some ⟨W0.heap.size,0,none⟩) n n));clear HS P4 hrow hb2 hsz2 hw1 G0;go_wp2;exact bodyPost_ret (zWC Tryz.results66 PF.out _ (by rfl) (by rfl)) rfl FIN.out
def zfB (n:Nat):Nat→List Int
 | 0=>List.replicate (n*n) 0
 | i+1=>(zfB n i).set (i*n+i) 1
theorem zKB (n:Nat):∀i,(zfB n i).length=n*n
 | 0=>by simp [zfB]
 | i+1=>by simp [zfB,zKB n i]
theorem Zcs.set {w w':World} {ps:List (Value×Value)} {zs:List Int} {k t:Nat} {x y:Value} {z:Int} (h:Zcs w ps zs k) (hk:Wk w w') (hz:Zc w' (.agg #[x,y]) z k):Zcs w' (ps.set t (x,y)) (zs.set t z) k:=by
 refine ⟨by simp [h.1],fun j p q hp hq=>?_⟩
 by_cases e:j=t
 ·subst e
  have h1:j<ps.length:=by simpa using (List.getElem?_eq_some_iff.1 hp).1
  rw [List.getElem?_set_self h1,Option.some.injEq] at hp;rw [List.getElem?_set_self (by rw [←h.1];exact h1),Option.some.injEq] at hq;rw [←hp,←hq];exact hz
 ·rw [List.getElem?_set_ne (by omega)] at hp hq
  exact (h.2 j p q hp hq).wk hk
theorem zwG (w:World) (n k:Nat):Zcs w (List.replicate n zGB) (List.replicate n 0) k:=by
 refine ⟨by simp,fun j p z hp hz=>?_⟩;have e1:p=zGB:=List.eq_of_mem_replicate (List.mem_of_getElem? hp);have e2:z=0:=List.eq_of_mem_replicate (List.mem_of_getElem? hz);rw [e1,e2];exact ⟨false,[],none,0,rfl,Sl.nil _,⟨WF.nil,rfl⟩,fun _=>rfl,by simp [iv,val],Nat.zero_le _⟩
def zRJ (w:World) (g bu n:Nat) (gk:Nat) (s:Value) (wx:World):Prop :=
 ∃i:Nat,s=.int .i64 (i:Int)∧i≤n∧gk=n-i∧(∃ps,Arr wx g ps∧ps.length=n*n∧Zcs wx ps (zfB n i) 1)∧Cel wx bu 24 (matc n n (.slice (some ⟨g,0,none⟩) (n*n) (n*n)))∧Cel wx w.heap.size 24 [.int .i64 0,.int .i64 0,.slice none 0 0]∧Below w.heap.size w wx
theorem unit_any {w:World} {n:Nat} (hn:n≤64):Calls Tryz.prog 38 #[.int .i64 (n:Int)] w (zyA w n n (zfB n n) 1):=by
 obtain ⟨W0,hW⟩:∃W0,w.alloc mbox=W0:=⟨_,rfl⟩
 obtain ⟨b0,sz0⟩:=alo1 w mbox;rw [hW] at b0 sz0;have P2:=hid (zZB hW);have HS:=hid (zero_any (w:=W0) hn hn);have G0:=hid b0;have EW:=hid hW;have SZ:=hid sz0;have hnn:n*n≤64*64:=Nat.mul_le_mul hn hn;obtain ⟨N,hN⟩:∃N,n*n=N:=⟨_,rfl⟩
 have HNN:=hid hN;rw [hN] at HS hnn;clear b0 hW sz0 hN;go_enter Tryz.func38,Tryz.ntmps38;go_wp2_with fail;rw [EW.out];refine HS.out.mono ?_;rintro e w1 ⟨g,rfl,hge,harr,b⟩;obtain ⟨V1,hV⟩:∃V1,w1.alloc (matO n n (.slice (some ⟨g,0,none⟩) N N))=V1:=⟨_,rfl⟩
 obtain ⟨b1,sz1⟩:=alo1 w1 (matO n n (.slice (some ⟨g,0,none⟩) N N));rw [hV] at b1 sz1;have PU:Hid (Cel V1 w1.heap.size 24 (matc n n (.slice (some ⟨g,0,none⟩) N N))):=by unfold Hid;rw [←hV];exact Cel.new w1 _ _
 have x0:=PU.out.at (i:=0) rfl;rw [←hV] at x0;have HGW:Hid (w.heap.size<g∧g<w1.heap.size):=by unfold Hid;have h1:=SZ.out;have h2:=harr.1.blk;omega
 have H0:Hid (zRJ w g w1.heap.size n n (.int .i64 0) V1):=by
  refine ⟨0,rfl,Nat.zero_le _,by omega,⟨_,harr.step b1,by rw [HNN.out];simp,?_⟩,?_,(P2.out.step b).step b1,below_step (below_step G0.out b) b1⟩
  ·rw [zfB,HNN.out];exact zwG _ _ _
  ·rw [HNN.out];exact PU.out
 have HBU:Hid (w.heap.size<w1.heap.size):=by unfold Hid;have h1:=SZ.out;have h2:=(show Below _ _ _ from b).size;omega
 have EV:=hid hV;clear HS P2 G0 EW harr b b1 sz1 PU hV hge;go_wp2_with fail;rw [EV.out];clear x0 EV;have HGB:Hid (g<w1.heap.size):=HGW.out.2;generalize w1.heap.size=bu at *
 go_loopg [15] n (fun gk s15 wx=>zRJ w g bu n gk s15 wx)
 case atStart=>exact H0.out
 case round =>
  clear H0;obtain ⟨i,rfl,hin,hg,⟨ps,harr,hpl,hzc⟩,hbu,hre,hG⟩:=hrel;rw [HNN.out] at hbu;have AR:=hid harr;have PL:=hid hpl;have ZC:=hid hzc;have PU:=hid hbu;have PR:=hid hre;have G:=hid hG;have HG:=hid hg;clear harr hpl hzc hbu hre hG hg
  by_cases hlt:i<n
  ·have hlt':(i:Int)<(n:Int):=by omega
   have hw:=zbA (i:=i) (by omega);have hm0:=zJB (i:=i) (c:=n) (by omega) hn;have hix:i*n+i<N:=by
    rw [←HNN.out];have h1:(i+1)*n≤n*n:=Nat.mul_le_mul_right n hlt;have h2:(i+1)*n=i*n+n:=by rw [Nat.add_mul,Nat.one_mul]
    omega
   have UL:Hid (zfB n (i+1)=(zfB n i).set (i*n+i) 1):=rfl;obtain ⟨lo,hlo⟩:∃lo,i*n=lo:=⟨_,rfl⟩
   rw [hlo] at hm0 hix UL;obtain ⟨ix,hix2⟩:∃ix,lo+i=ix:=⟨_,rfl⟩
   rw [hix2] at hix UL;have ha0:IntKind.i64.wrap ((lo:Int)+(i:Int))=(ix:Int):=by rw [zTA] <;> omega
   have ha1:=ha0;have hm1:=hm0;rw [IntKind.wrap_i64] at ha1 hm1;have hixN:(ix:Int)<(N:Int):=by omega
   have PL2:Hid (ix<ps.length):=by unfold Hid;rw [PL.out,HNN.out];exact hix
   have x2:=PU.out.at (i:=2) rfl;clear hlo hix2;go_wp2_with fail;have KB:Hid (∀w',Below wr.heap.size wr w'→w'.cell? ⟨bu,2,none⟩=some (.slice (some ⟨g,0,none⟩) N N)):=fun w' h=>cnow h x2
   refine zEA (fun w'=>w'.cell? ⟨bu,2,none⟩=some (.slice (some ⟨g,0,none⟩) N N)) 9 (by kernel_rfl) ?_;obtain ⟨D1,hD⟩:∃D1,wr.drew=D1:=⟨_,rfl⟩
   have GB:Hid (Below wr.heap.size wr D1):=by unfold Hid;rw [←hD];exact (Below.refl _ _).drew
   rw [hD];clear hD;refine zBA (i:=0) (oi:=⟨some 18,.fieldAddr 24 (.tmp 4) 2,0, "mat.go:52",#[],none⟩) (v:=(.pointer (some ⟨bu,2,none⟩))) rfl (by kernel_rfl) (fun _ _ _ h=>h) (Or.inl ⟨by rfl,?_⟩) (KB.out _ GB.out) ?_
   ·intro w hSw;(try dsimp only at hSw);go_simp
   simp only [Act.put,sIb,sC0,sC1];refine zBA (i:=1) (oi:=⟨some 19,.load 22 (.tmp 18),22, "mat.go:52",#[⟨0,.data⟩],none⟩) (v:=(.slice (some ⟨g,0,none⟩) N N)) rfl (by kernel_rfl) (fun _ _ _ h=>h) (Or.inl ⟨by rfl,?_⟩) (KB.out _ GB.out) ?_
   ·intro w hSw;(try dsimp only at hSw);go_simp
   simp only [Act.put,sIb,sC0,sC1];refine zBA (i:=2) (oi:=⟨some 20,.move (.tmp 6),3, "mat.go:52",#[],none⟩) (v:=(.int .i64 (i:Int))) rfl (by kernel_rfl) (fun _ _ _ h=>h) (Or.inl ⟨by rfl,?_⟩) (KB.out _ GB.out) ?_
   ·intro w hSw;(try dsimp only at hSw);go_simp
   simp only [Act.put,sIb,sC0,sC1];refine zBA (i:=3) (oi:=⟨some 21,.move (.tmp 0),3, "mat.go:52",#[],none⟩) (v:=(.int .i64 (n:Int))) rfl (by kernel_rfl) (fun _ _ _ h=>h) (Or.inl ⟨by rfl,?_⟩) (KB.out _ GB.out) ?_
   ·intro w hSw;(try dsimp only at hSw);go_simp
   simp only [Act.put,sIb,sC0,sC1];refine zBA (i:=4) (oi:=⟨some 22,.binOp .mul 3 (.tmp 20) (.tmp 21) 3,3, "mat.go:52",#[⟨2,.data⟩,⟨3,.data⟩],none⟩) (v:=(.int .i64 (lo:Int))) rfl (by kernel_rfl) (fun _ _ _ h=>h) (Or.inl ⟨by rfl,?_⟩) (KB.out _ GB.out) ?_
   ·intro w hSw;(try dsimp only at hSw);go_simp
   simp only [Act.put,sIb,sC0,sC1];refine zBA (i:=5) (oi:=⟨some 23,.move (.tmp 6),3, "mat.go:52",#[],none⟩) (v:=(.int .i64 (i:Int))) rfl (by kernel_rfl) (fun _ _ _ h=>h) (Or.inl ⟨by rfl,?_⟩) (KB.out _ GB.out) ?_
   ·intro w hSw;(try dsimp only at hSw);go_simp
   simp only [Act.put,sIb,sC0,sC1];refine zBA (i:=6) (oi:=⟨some 24,.binOp .add 3 (.tmp 22) (.tmp 23) 3,3, "mat.go:52",#[⟨4,.data⟩,⟨5,.data⟩],none⟩) (v:=(.int .i64 (ix:Int))) rfl (by kernel_rfl) (fun _ _ _ h=>h) (Or.inl ⟨by rfl,?_⟩) (KB.out _ GB.out) ?_
   ·intro w hSw;(try dsimp only at hSw);go_simp
   simp only [Act.put,sIb,sC0,sC1];refine zAA (i:=7) (o:=⟨some 25,.call { callee:=.value (.func 67),args:=#[.const (.int .i64 1)],argTypes:=#[2] },47, "mat.go:52",#[],none⟩) (by kernel_rfl) rfl (fun K hK=>?_);go_simp;go_at_call 67;refine (of_z (n:=1) (by omega) (by omega) D1).mono ?_;rintro e w2 ⟨r,rfl,m1,b⟩;have lz2:=(show Below _ _ _ from b).size;replace GB:=hid (below_step GB.out b);have AR1:=hid (AR.out.step GB.out);have ZC1:=hid (ZC.out.now GB.out);have PU1:=hid (PU.out.step GB.out);have PR1:=hid (PR.out.step GB.out);have G1:=hid (below_step G.out GB.out);have M1:=hid m1.zc;obtain ⟨nr,xr,ar,cr,rfl⟩:=m1.parts;clear m1;clear b;refine hK.out _ _ (fun _=>KB.out _ GB.out) ?_;clear hK;refine zBA (i:=8) (oi:=⟨some 26,.indexAddr 22 (.tmp 19) (.tmp 24),0, "mat.go:52",#[⟨1,.data⟩,⟨6,.data⟩,⟨0,.phase⟩,⟨1,.phase⟩,⟨2,.phase⟩,⟨3,.phase⟩,⟨4,.phase⟩,⟨5,.phase⟩,⟨6,.phase⟩,⟨7,.phase⟩],none⟩) (v:=(.pointer (some ⟨g,ix*2,none⟩))) rfl (by kernel_rfl) (fun _ _ _ h=>h) (Or.inl ⟨by rfl,?_⟩) (KB.out _ GB.out) ?_
   ·intro w hSw;(try dsimp only at hSw);go_simp
   simp only [Act.put,sIb,sC0,sC1];refine zAA (i:=9) (o:=⟨none,.store 47 (.tmp 26) (.tmp 25),0, "mat.go:52",#[⟨8,.data⟩,⟨7,.data⟩,⟨7,.chain⟩,⟨0,.phase⟩,⟨1,.phase⟩,⟨2,.phase⟩,⟨3,.phase⟩,⟨4,.phase⟩,⟨5,.phase⟩,⟨6,.phase⟩,⟨7,.phase⟩],none⟩) (by kernel_rfl) rfl (fun K hK=>?_);have hps:ps[ix]?=some (ps[ix]'PL2.out):=List.getElem?_eq_getElem PL2.out;obtain ⟨e0,e1⟩:=AR1.out.at hps;have e2:=AR1.out.1.fz (ix*2);have e3:=AR1.out.1.fz (ix*2+1);clear hps;go_simp;clear e0 e1 e2 e3;obtain ⟨V3,hW⟩:∃V3,((w2.setCell ⟨g,ix*2,none⟩ (.bool nr)).setCell ⟨g,ix*2+1,none⟩ (.slice ar xr.length cr))=V3:=⟨_,rfl⟩
   have HN1:Hid (zRJ w g bu n (n-(i+1)) (.int .i64 ((i+1:Nat):Int)) V3):=by
    unfold Hid;rw [←hW];have hk:=AR1.out.wk PL2.out (.bool nr) (.slice ar xr.length cr);refine ⟨i+1,rfl,by omega,rfl,⟨_,AR1.out.put PL2.out M1.out.zi.isI,by simpa using PL.out,?_⟩,?_,(PR1.out.ne (by have:=HGW.out;omega)).ne (by have:=HGW.out;omega),bset (bset G1.out (by have:=HGW.out;omega)) (by have:=HGW.out;omega)⟩
    ·rw [UL.out]
     exact ZC1.out.set hk (M1.out.wk hk)
    ·rw [HNN.out]
     exact (PU1.out.ne (by have:=HGB.out;omega)).ne (by have:=HGB.out;omega)
   rw [hW];clear hW;refine hK.out _ _ (fun h=>absurd h (by decide)) ?_;clear hK
   try simp only [Act.put]
   refine zDA (by kernel_rfl) ?_ _;have HMM:Hid (n-(i+1)<gk):=by unfold Hid;rw [HG.out];omega
   clear AR PL ZC PU PR G HG AR1 ZC1 PU1 PR1 G1 M1 UL PL2 GB KB;go_wp2_with fail;go_roundg (n-(i+1))
   case rel=>exact HN1.out
   case measure=>exact HMM.out
  ·have hlt':¬(i:Int)<(n:Int):=by omega
   obtain rfl:i=n:=by omega
   have hpl:ps.length=N:=by rw [PL.out];exact HNN.out
   have q1:=AR.out.prs (B:=0) (Nat.zero_le _) (by omega) (Nat.le_refl _);rw [hpl] at q1;have hmc:Mc wr (matv i i (.slice (some ⟨g,0,none⟩) N N)) i i (zfB i i) 1:=⟨_,ps,rfl,q1,ZC.out,zKB _ _,hn,hn⟩
   have FIN:Hid (zyA w i i (zfB i i) 1 (.returned (.tuple #[.agg #[.int .i64 (i:Int),.int .i64 (i:Int),.slice (some ⟨g,0,none⟩) N N],.int .i64 0])) (put3 wr w.heap.size (.int .i64 (i:Int)) (.int .i64 (i:Int)) (.slice (some ⟨g,0,none⟩) N N))) :=
    ⟨_,rfl,hmc.wk PR.out _ _ _,zVA G.out (Nat.le_refl _) _ _ _⟩
   have PF:=hid (PR.out.put3 (.int .i64 (i:Int)) (.int .i64 (i:Int)) (.slice (some ⟨g,0,none⟩) N N));have x0:=PU.out.at (i:=0) rfl;have x1:=PU.out.at (i:=1) rfl;have x2:=PU.out.at (i:=2) rfl;have r0:=PR.out.at (i:=0) rfl;have r1:=PR.out.at (i:=1) rfl;have r2:=PR.out.at (i:=2) rfl;have f0:=PR.out.fz 0;have f1:=PR.out.fz 1;have f2:=PR.out.fz 2;clear AR PL ZC G HG hmc q1 hpl;go_wp2;exact bodyPost_ret (zWC Tryz.results38 PF.out _ (by rfl) (by rfl)) rfl FIN.out

theorem Zcs.at9 {B:Nat} {w:World} {b off l c:Nat} {ps:List (Value×Value)} {zs:List Int} {k:Nat} (h:Prs B w (.slice (some ⟨b,off,none⟩) l c) ps) (hz:Zcs w ps zs k) {i:Nat} (hi:i<zs.length):∃n,∃xs:List Int,∃a c,w.cell? ⟨b,off+i*2,none⟩=some (.bool n)∧w.cell? ⟨b,off+i*2+1,none⟩=some (.slice a xs.length c)∧Zc w (.agg #[.bool n,.slice a xs.length c]) zs[i] k:=by
 have hp:ps[i]?=some (ps[i]'(by rw [hz.1];exact hi)):=List.getElem?_eq_getElem _;have q:=h.at hp;have z:=hz.2 i _ _ hp (List.getElem?_eq_getElem hi);have z':=z;obtain ⟨n,xs,a,c,e,-⟩:=z;simp only [Value.agg.injEq,Array.mk.injEq,List.cons.injEq,and_true] at e;rw [e.1,e.2] at q;rw [e.1,e.2] at z';exact ⟨n,xs,a,c,q.1,q.2,z'⟩
def zUJ (w:World) (n gk:Nat) (s:Value) (wx:World):Prop:=∃i:Nat,s=.int .i64 (i:Int)∧i≤n∧gk=n-i∧Below w.heap.size w wx
def Snd (r c:Int) (l:Nat):Prop:=0≤r∧r≤64∧0≤c∧c≤64∧(l:Int)=r*c
def zJD (w:World) (r c:Int) (l:Nat) (e:Ending) (w':World):Prop:=∃b:Bool,e=.returned (.bool b)∧(b=true↔Snd r c l)∧Below w.heap.size w w'

open Go.ChangeShapes Go.WideShapes Go.ChangeAt Go.RowKit
theorem Tryz.cellsM9:Tryz.prog.cellsOf 24=3:=by kernel_rfl
theorem Tryz.cellsI9:Tryz.prog.cellsOf 3=1:=by kernel_rfl
theorem Tryz.cellsL9:Tryz.prog.cellsOf 22=1:=by kernel_rfl
def Raw (w:World) (v:Value) (r c:Int) (l:Nat) (zs:List Int):Prop:=∃a cap ps,v=.agg #[.int .i64 r,.int .i64 c,.slice a l cap]∧Prs 0 w (.slice a l cap) ps∧Zis w ps zs 1048576∧zs.length=l∧l≤1048576
theorem Raw.mx {w:World} {v:Value} {r c l:Nat} {zs:List Int} (h:Raw w v (r:Int) (c:Int) l zs) (hs:Snd (r:Int) (c:Int) l):Mx w v r c zs 1048576:=by
 obtain ⟨a,cap,ps,h1,h2,h3,h4,h5⟩:=h;obtain ⟨s1,s2,s3,s4,s5⟩:=hs;exact ⟨_,ps,h1,h2,h3,by rw [h4];exact Int.ofNat.inj (by simpa using s5),by omega,by omega⟩
theorem trod_struct3m {H:Type} {enc:TypeId×Value→H} {P:Program} {w:World} {base:Nat} {spare:Nat→Bool} {held:Bool} {t:TypeId} {f0 f1 f2:Field} {fuel:Nat} {cs:List Value} {x:DataW H×List MemPlace} (ht:P.underlying t=some (.struct #[f0,f1,f2]))
  (h:DataW.trod enc P w base spare held fuel t cs=some x) :
  ∃y0 y1 y2 n,x.1=.agg [y0.1,y1.1,y2.1]∧cs.length=P.cellsOf t∧DataW.trod enc P w base spare held n f0.type ((cs.drop f0.offset).take (P.cellsOf f0.type))=some y0∧DataW.trod enc P w base spare held n f1.type ((cs.drop f1.offset).take (P.cellsOf f1.type))=some y1∧DataW.trod enc P w base spare held n f2.type ((cs.drop f2.offset).take (P.cellsOf f2.type))=some y2:=by
 obtain ⟨xs,n,_,rfl,hl,hlen,hf⟩:=DataW.trod_struct ht h
 match xs,hlen with
 | [y0,y1,y2],_=>exact ⟨y0,y1,y2,n,by simp,hl,by simpa using hf 0 f0 rfl,by simpa using hf 1 f1 rfl,by simpa using hf 2 f2 rfl⟩
theorem open_list9 {H:Type} {enc:TypeId×Value→H} {W:World} {fuel:Nat} {v:Value} {y:DataW H×List MemPlace}
  (hf:DataW.trod enc Tryz.prog W 0 (fun _=>true) true fuel 22 [v]=some y) (hb:Rows.uptoBulk y.1≤1048576) :
  ∃a l cap ps zs,v=.slice a l cap∧Prs 0 W (.slice a l cap) ps∧Zis W ps zs 1048576∧zs.length=l∧l≤1048576:=by
 have hn:∀c,v=.slice none 0 c→c=0:=by
  rcases Deep.open_slice Tryz.underlying22 hf with ⟨hcs,_⟩ | ⟨x,len,cap,m,n,D,Pl,hcs,_⟩
  ·simp only [List.cons.injEq,and_true] at hcs
   intro c e;rw [hcs] at e
   simpa using e.symm
  ·simp only [List.cons.injEq,and_true] at hcs
   intro c e;rw [hcs] at e;simp at e
 obtain ⟨zs,ks,h1,h2⟩:=zIF hf hb;have hz:=h1.zl (K:=1048576) (by omega);obtain ⟨ps,p1,p2⟩:=hz.prs hn;obtain ⟨a,c,e,-,hl,-⟩:=hz;subst e;exact ⟨a,zs.length,c,ps,zs,rfl,p1,p2,rfl,hl⟩
theorem open_mat9 {H:Type} {enc:TypeId×Value→H} {W:World} {r:Reach} {b0:Nat} {v:Value} {d:DataW H} {p:List MemPlace}
  (hv:Value.okWide Tryz.prog W r b0 24 v) (h0:DataW.Trod enc Tryz.prog W 0 (fun _=>true) true 24 v d p) (hb:Rows.uptoBulk d≤1048576) :
  ∃r c l zs,Raw W v r c l zs:=by
 obtain ⟨cs,rfl,hsz⟩:=okWide_struct Tryz.underlying24 hv;obtain ⟨fuel,hf⟩:=h0;obtain ⟨y0,y1,y2,n,hx,hl,t0,t1,t2⟩:=trod_struct3m Tryz.underlying24 hf;obtain ⟨L,rfl⟩:∃L:List Value,cs=L.toArray:=⟨cs.toList,by simp⟩
 simp only [Value.cells] at hl t0 t1 t2;rw [Tryz.cellsM9] at hl;have hx':d=.agg [y0.1,y1.1,y2.1]:=hx;subst hx';simp only [Rows.uptoBulk,Rows.uptoBulkAll] at hb
 match L,hl with
 | [e0,e1,e2],_ =>
  simp only [Tryz.cellsI9,Tryz.cellsL9,List.drop_zero,List.drop_succ_cons,List.take_succ_cons,List.take_zero] at t0 t1 t2;obtain ⟨k0,q0,_,_⟩:=DataW.trod_int Tryz.underlying3 t0;obtain ⟨k1,q1,_,_⟩:=DataW.trod_int Tryz.underlying3 t1;simp only [List.cons.injEq,and_true] at q0 q1;subst q0 q1;obtain ⟨a,l,cap,ps,zs,rfl,h1,h2,h3,h4⟩:=open_list9 t2 (by omega);exact ⟨_,_,l,zs,a,cap,ps,rfl,h1,h2,h3,h4⟩
end Go.Proofs.YtjjpodnjljfheaaGreat
namespace Go.Proofs.YtjjpodnjljfheaaGreat
theorem zzD {α β:Type} {f:α→β}:∀ {l:List α},l.Nodup→(∀x∈l,∀y∈l,f x=f y→x=y)→(l.map f).Nodup
 | [],_,_=>by simp
 | a :: l,h,hi=>by
  rw [List.nodup_cons] at h;rw [List.map_cons,List.nodup_cons];refine ⟨fun hm=>?_,zzD h.2 (fun x hx y hy=>hi x (by simp [hx]) y (by simp [hy]))⟩;obtain ⟨b,hb,e⟩:=List.mem_map.1 hm;have:=hi b (by simp [hb]) a (by simp) e;exact h.1 (this ▸ hb)
def su:Nat→(Nat→Int)→Int
 | 0,_=>0
 | n+1,f=>su n f+f n
theorem zJA:∀ {n:Nat} {f g:Nat→Int},(∀k,k<n→f k=g k)→su n f=su n g
 | 0,_,_,_=>rfl
 | n+1,f,g,h=>by
  show su n f+f n=su n g+g n
  rw [zJA (fun k hk=>h k (by omega)),h n (by omega)]
theorem zbC:∀ {n:Nat} {f:Nat→Int},(∀k,k<n→f k=0)→su n f=0
 | 0,_,_=>rfl
 | n+1,f,h=>by
  show su n f+f n=0
  rw [zbC (fun k hk=>h k (by omega)),h n (by omega)];rfl
theorem zQD:∀(n:Nat) (f g:Nat→Int),su n (fun k=>f k+g k)=su n f+su n g
 | 0,_,_=>rfl
 | n+1,f,g=>by
  show su n (fun k=>f k+g k)+(f n+g n)=su n f+f n+(su n g+g n)
  rw [zQD n f g];omega
theorem zvA:∀(n:Nat) (c:Int) (f:Nat→Int),su n (fun k=>c*f k)=c*su n f
 | 0,c,_=>by show (0:Int)=c*0;simp
 | n+1,c,f=>by
  show su n (fun k=>c*f k)+c*f n=c*(su n f+f n)
  rw [zvA n c f,Int.mul_add]
theorem zjD (n:Nat) (c:Int) (f:Nat→Int):su n (fun k=>f k*c)=su n f*c:=by
 rw [Int.mul_comm,←zvA];exact zJA fun k _=>Int.mul_comm _ _
theorem zBD:∀(n m:Nat) (f:Nat→Nat→Int),su n (fun i=>su m (fun j=>f i j))=su m (fun j=>su n (fun i=>f i j))
 | 0,m,f=>by
  show (0:Int)=_
  exact (zbC fun k _=>rfl).symm
 | n+1,m,f=>by
  show su n (fun i=>su m (fun j=>f i j))+su m (fun j=>f n j)=su m (fun j=>su n (fun i=>f i j)+f n j)
  rw [zQD,zBD n m f]
theorem zCC:∀ {n i:Nat} {f:Nat→Int},i<n→(∀k,k<n→k≠i→f k=0)→su n f=f i
 | 0,i,f,h,_=>by omega
 | n+1,i,f,h,hz=>by
  show su n f+f n=f i
  by_cases hi:i=n
  ·subst hi
   rw [zbC (fun k hk=>hz k (by omega) (by omega))];omega
  ·rw [zCC (by omega:i<n) (fun k hk hne=>hz k (by omega) hne),hz n (by omega) (by omega)];omega
theorem zsH:∀ {n i:Nat} {f:Nat→Int},i+1<n→(∀k,k<n→k≠i→k≠i+1→f k=0)→f i+f (i+1)=0→su n f=0
 | 0,i,f,h,_,_=>by omega
 | n+1,i,f,h,hz,hc=>by
  show su n f+f n=0
  by_cases hi:i+1=n
  ·subst hi
   rw [zCC (by omega:i<i+1) (fun k hk hne=>hz k (by omega) hne (by omega))];exact hc
  ·rw [zsH (by omega:i+1<n) (fun k hk h1 h2=>hz k (by omega) h1 h2) hc,hz n (by omega) (by omega) (by omega)];rfl
def skd (i k:Nat):Nat:=if k<i then k else k+1
def sgd:Nat→Int
 | 0=>1
 | n+1 => - sgd n
def dlz (i j:Nat):Int:=if i=j then 1 else 0
def stR (A:Nat→Nat→Int) (i:Nat) (u:Nat→Int):Nat→Nat→Int:=fun r c=>if r=i then u c else A r c
def det:Nat→(Nat→Nat→Int)→Int
 | 0,_=>1
 | n+1,A=>su (n+1) fun i=>sgd i*A i 0*det n (fun r c=>A (skd i r) (c+1))
theorem zRA:∀ {n:Nat} {A B:Nat→Nat→Int},(∀i j,i<n→j<n→A i j=B i j)→det n A=det n B
 | 0,_,_,_=>rfl
 | n+1,A,B,h=>zJA fun i hi=>by
  show sgd i*A i 0*det n (fun r c=>A (skd i r) (c+1))=sgd i*B i 0*det n (fun r c=>B (skd i r) (c+1))
  rw [h i 0 hi (by omega),zRA (A:=fun r c=>A (skd i r) (c+1)) (B:=fun r c=>B (skd i r) (c+1)) fun r c hr hc=>h _ _ (by unfold skd;split <;> omega) (by omega)]
structure Alt (n:Nat) (F:(Nat→Nat→Int)→Int):Prop where
 congr:∀A B:Nat→Nat→Int,(∀i j,i<n→j<n→A i j=B i j)→F A=F B
 lin:∀(A:Nat→Nat→Int) (i:Nat) (u v:Nat→Int) (x y:Int),i<n→F (stR A i fun j=>x*u j+y*v j)=x*F (stR A i u)+y*F (stR A i v)
 alt:∀(A:Nat→Nat→Int) (i:Nat),i+1<n→(∀j,j<n→A i j=A (i+1) j)→F A=0
theorem zzB:∀n:Nat,Alt n (det n)
 | 0=>⟨fun _ _ _=>rfl,fun _ i _ _ _ _ h=>by omega,fun _ i h=>by omega⟩
 | n+1=>by
  have IH:=zzB n;refine ⟨fun A B h=>zRA h,fun A a u v x y ha=>?_,fun A a ha he=>?_⟩
  ·show su (n+1) _=x*su (n+1) _+y*su (n+1) _
   rw [←zvA,←zvA,←zQD];refine zJA fun i hi=>?_
   by_cases hia:i=a
   ·subst hia
    have e:∀z:Nat→Int,det n (fun r c=>stR A i z (skd i r) (c+1))=det n (fun r c=>A (skd i r) (c+1)):=fun z=>zRA fun r c _ _=>if_neg (by unfold skd;split <;> omega)
    have e0:∀z:Nat→Int,stR A i z i 0=z 0:=fun z=>if_pos rfl
    simp only [e,e0]
    grind
   ·have e0:∀z:Nat→Int,stR A a z i 0=A i 0:=fun z=>if_neg hia
    obtain ⟨b,hb,hbn⟩:∃b,skd i b=a∧b<n:=⟨if a<i then a else a-1,by unfold skd;grind,by split <;> omega⟩
    have e:∀z:Nat→Int,det n (fun r c=>stR A a z (skd i r) (c+1))=det n (stR (fun r c=>A (skd i r) (c+1)) b fun c=>z (c+1)):=fun z=>zRA fun r c _ _=>by
     show (if skd i r=a then z (c+1) else A (skd i r) (c+1))=if r=b then z (c+1) else A (skd i r) (c+1)
     by_cases hrb:r=b
     ·rw [if_pos (by rw [hrb];exact hb),if_pos hrb]
     ·rw [if_neg (by rw [←hb];unfold skd;grind),if_neg hrb]
    simp only [e,e0];rw [IH.lin _ b _ _ x y hbn]
    grind
  ·refine zsH (i:=a) ha (fun i hi h1 h2=>?_) ?_
   ·have h0:det n (fun r c=>A (skd i r) (c+1))=0:=by
     refine IH.alt _ (if i<a then a-1 else a) (by split <;> omega) fun j hj=>?_
     have e1:skd i (if i<a then a-1 else a)=a:=by unfold skd;split <;> split <;> omega
     have e2:skd i ((if i<a then a-1 else a)+1)=a+1:=by unfold skd;split <;> split <;> omega
     show A (skd i (if i<a then a-1 else a)) (j+1)=A (skd i ((if i<a then a-1 else a)+1)) (j+1)
     rw [e1,e2];exact he _ (by omega)
    rw [h0,Int.mul_zero]
   ·have e:det n (fun r c=>A (skd a r) (c+1))=det n (fun r c=>A (skd (a+1) r) (c+1)):=zRA fun r c hr hc=>by
     by_cases hra:r=a
     ·subst hra
      have e1:skd r r=r+1:=by unfold skd;split <;> omega
      have e2:skd (r+1) r=r:=by unfold skd;split <;> omega
      show A (skd r r) (c+1)=A (skd (r+1) r) (c+1)
      rw [e1,e2];exact (he _ (by omega)).symm
     ·have e1:skd a r=skd (a+1) r:=by unfold skd;split <;> split <;> omega
      show A (skd a r) (c+1)=A (skd (a+1) r) (c+1)
      rw [e1]
    rw [e,he 0 (by omega)]
    show _ + - sgd a*_*_=0
    grind
theorem zEE (A:Nat→Nat→Int) (i:Nat):stR A i (A i)=A:=by
 funext r c;unfold stR;split <;> simp_all
theorem zkD {A:Nat→Nat→Int} {i k:Nat} (h:i≠k) (u v:Nat→Int):stR (stR A i u) k v=stR (stR A k v) i u:=by
 funext r c;unfold stR;split <;> split <;> simp_all
theorem zbB (A:Nat→Nat→Int) (i:Nat) (u:Nat→Int):stR A i u i=u:=by funext c;simp [stR]
theorem zCB (A:Nat→Nat→Int) {i k:Nat} (h:k≠i) (u:Nat→Int):stR A i u k=A k:=by funext c;simp [stR,h]
section
variable {n:Nat} {F:(Nat→Nat→Int)→Int}
theorem Alt.add (h:Alt n F) {A:Nat→Nat→Int} {i:Nat} (hi:i<n) (u v:Nat→Int):F (stR A i fun j=>u j+v j)=F (stR A i u)+F (stR A i v):=by
 have:=h.lin A i u v 1 1 hi
 simpa using this
theorem Alt.mul (h:Alt n F) {A:Nat→Nat→Int} {i:Nat} (hi:i<n) (x:Int) (u:Nat→Int):F (stR A i fun j=>x*u j)=x*F (stR A i u):=by
 have:=h.lin A i u u x 0 hi
 simpa using this
theorem Alt.swap_of (h:Alt n F) {A:Nat→Nat→Int} {i k:Nat} (hi:i<n) (hk:k<n) (hik:i≠k)
  (h0:∀u:Nat→Int,F (stR (stR A i u) k u)=0):F (stR (stR A i (A k)) k (A i)) = - F A:=by
 have h1:=h0 fun j=>A i j+A k j
 rw [h.add hk,zkD hik,zkD hik,h.add hi,h.add hi,zkD (Ne.symm hik),zkD (Ne.symm hik),zkD (Ne.symm hik),zkD (Ne.symm hik)] at h1;have h2:=h0 (A i);have h3:=h0 (A k);rw [h2,h3] at h1;rw [zEE A i,zEE A k] at h1;omega
theorem Alt.swap1 (h:Alt n F) {A:Nat→Nat→Int} {i:Nat} (hi:i+1<n):F (stR (stR A i (A (i+1))) (i+1) (A i)) = - F A :=
 h.swap_of (by omega) hi (by omega) fun u=>h.alt _ i hi fun j _=>by rw [zbB,zCB _ (by omega),zbB]
theorem Alt.equal (h:Alt n F):∀(d:Nat) {A:Nat→Nat→Int} {i:Nat},i+d+1<n→(∀j,j<n→A i j=A (i+d+1) j)→F A=0
 | 0,A,i,hi,he=>h.alt A i hi he
 | d+1,A,i,hi,he=>by
  have h1:=h.swap1 (A:=A) (i:=i+d+1) (by omega);have h2:=Alt.equal h d (A:=stR (stR A (i+d+1) (A (i+d+1+1))) (i+d+1+1) (A (i+d+1))) (i:=i) (by omega) (fun j hj=>by
   rw [zCB _ (by omega),zCB _ (by omega),zCB _ (by omega),zbB];exact he j hj)
  rw [h2] at h1;omega
theorem Alt.same (h:Alt n F) {A:Nat→Nat→Int} {i k:Nat} (hi:i<n) (hk:k<n) (hik:i≠k) (he:∀j,j<n→A i j=A k j):F A=0:=by
 rcases Nat.lt_or_gt_of_ne hik with hl | hl
 ·obtain ⟨d,rfl⟩:∃d,k=i+d+1:=⟨k-i-1,by omega⟩
  exact h.equal d hk he
 ·obtain ⟨d,rfl⟩:∃d,i=k+d+1:=⟨i-k-1,by omega⟩
  exact h.equal d hi fun j hj=>(he j hj).symm
theorem Alt.swap (h:Alt n F) {A:Nat→Nat→Int} {i k:Nat} (hi:i<n) (hk:k<n) (hik:i≠k):F (stR (stR A i (A k)) k (A i)) = - F A :=
 h.swap_of hi hk hik fun u=>h.same hi hk hik fun j _=>by rw [zbB,zCB _ hik,zbB]
theorem Alt.plus (h:Alt n F) {A:Nat→Nat→Int} {i k:Nat} (hi:i<n) (hk:k<n) (hik:i≠k) (t:Int):F (stR A i fun j=>A i j+t*A k j)=F A:=by
 rw [h.add hi,h.mul hi,zEE,h.same (A:=stR A i (A k)) hi hk hik fun j _=>by rw [zbB,zCB _ (Ne.symm hik)]];omega
theorem Alt.sum (h:Alt n F) {A:Nat→Nat→Int} {i:Nat} (hi:i<n) (x:Nat→Int) (U:Nat→Nat→Int):∀m:Nat,F (stR A i fun j=>su m fun k=>x k*U k j)=su m fun k=>x k*F (stR A i (U k))
 | 0=>by
  have:=h.mul (A:=A) hi 0 (fun _=>0)
  simpa [su] using this
 | m+1=>by
  show F (stR A i fun j=>(su m fun k=>x k*U k j)+x m*U m j)=(su m fun k=>x k*F (stR A i (U k)))+x m*F (stR A i (U m))
  rw [h.add hi,Alt.sum h hi x U m,h.mul hi]
end
end Go.Proofs.YtjjpodnjljfheaaGreat
