/-
 QAr18ToR5Cmp: Ar18, Ix18, Pv18, R5Cmp, joined.
-/
import Derived.Test.YtefpboopafdhpaaGreatQRe18
import Derived.Test.YtefpboopafdhpaaGreatQTouchToTo18
import Derived.Test.YtefpboopafdhpaaGreatQZOnesToZCmp
import Derived.Test.YtefpboopafdhpaaGreatQDz12ToHn18
import Derived.Test.YtefpboopafdhpaaGreatQR5OnesToRPow

set_option maxRecDepth 100000
set_option maxHeartbeats 6400000
set_option linter.unusedVariables false
set_option linter.unusedSimpArgs false
namespace Go.Proofs.YtefpboopafdhpaaGreat
open Go.RowKit
abbrev ztG (bc bp:Nat):Value:=.func (.func 66) #[] #[.pointer (some ⟨bc,0,none⟩),.pointer (some ⟨bp,0,none⟩)]
theorem red1_18 {w:World} {g n k c bc bp:Nat} {F:Nat→Int} {np:Bool} {ap:Option Addr} {lp cp:Nat} {y:Int} (h:Rw17 w g n F k) (hc:c<n) (pc:w.cell? ⟨bc,0,none⟩=some (.int .i64 (c:Int))) (pp:Duo w bp (.bool np) (.slice ap lp cp)) (hy:Zm 0 w (.agg #[.bool np,.slice ap lp cp]) y k) :
  Calls Tryz.prog 66 #[.slice (some ⟨g,0,none⟩) n n,.pointer (some ⟨bc,0,none⟩),.pointer (some ⟨bp,0,none⟩)] w fun e w'=>e=.returned (.bool (!decide (0≤F c∧F c<y)))∧Below w.heap.size w w':=by
 obtain ⟨m,a,l,q,k0,k1,-,-,zf⟩:=h.at hc;obtain ⟨bb,hbb⟩:∃bb,decide (0≤F c∧F c<y)=bb:=⟨_,rfl⟩
 have HSF:Hid (∀w',Below w.heap.size w w'→Calls Tryz.prog 67 #[.agg #[.bool m,.slice a l q],.agg #[.bool np,.slice ap lp cp]] w' fun e w''=>e=.returned (.bool bb)∧Below w'.heap.size w' w''):=fun w' b=>by
  have:=zpD (zf.now b) (hy.now b);rw [hbb] at this;exact this
 rw [hbb];have hc':(c:Int)<(n:Int):=by omega
 have p0:=pp.c0;have p1:=pp.c1;clear h hy zf pp hbb;go_enter Tryz.func66,Tryz.ntmps66;go_wp2_with fail;have KB:Hid (∀w',Below w.heap.size w w'→w'.cell? ⟨bc,0,none⟩=some (.int .i64 (c:Int))∧w'.cell? ⟨g,c*2,none⟩=some (.bool m)∧w'.cell? ⟨g,c*2+1,none⟩=some (.slice a l q)∧w'.cell? ⟨bp,0,none⟩=some (.bool np)∧w'.cell? ⟨bp,1,none⟩=some (.slice ap lp cp)):=fun w' h=>⟨cnow h pc,cnow h k0,cnow h k1,cnow h p0,cnow h p1⟩
 refine zFA (fun w'=>w'.cell? ⟨bc,0,none⟩=some (.int .i64 (c:Int))∧w'.cell? ⟨g,c*2,none⟩=some (.bool m)∧w'.cell? ⟨g,c*2+1,none⟩=some (.slice a l q)∧w'.cell? ⟨bp,0,none⟩=some (.bool np)∧w'.cell? ⟨bp,1,none⟩=some (.slice ap lp cp)) 7 (by kernel_rfl) ?_;obtain ⟨D1,hD⟩:∃D1,w.drew=D1:=⟨_,rfl⟩
 have GB:Hid (Below w.heap.size w D1):=by unfold Hid;rw [←hD];exact (Below.refl _ _).drew
 rw [hD];clear hD;refine zIA [(0,(.slice (some ⟨g,0,none⟩) n n)),(1,(.int .i64 (c:Int))),(2,(.pointer (some ⟨g,c*2,none⟩))),(3,(.agg #[.bool m,.slice a l q])),(4,(.agg #[.bool np,.slice ap lp cp]))] 5 ?_ (KB.out _ GB.out) ?_
 ·simp only [zVA,gA9,g09,g19,Act.put,sI9,s09,s19]
  (repeat' (first | exact trivial | refine And.intro (Or.inl ⟨by rfl,?_⟩) ?_)) <;> (intro w hSw;(try dsimp only at hSw);go_simp)
 simp only [actV,gA9,g09,g19,Act.put,sI9,s09,s19];refine zAA (i:=5) (o:=⟨some 10,.call { callee:=.value (.func 67),args:=#[.tmp 8,.tmp 9],argTypes:=#[41,41] },4, "lines.go:75",#[⟨3,.data⟩,⟨4,.data⟩],none⟩) (by kernel_rfl) rfl (fun K hK=>?_);go_simp;go_at_call 67;refine (HSF.out _ GB.out).mono ?_;rintro e w2 ⟨rfl,b⟩;have lz2:=(show Below _ _ _ from b).size;replace GB:=hid (below_step GB.out b);have G:=GB;clear b;refine hK.out _ _ (fun _=>KB.out _ GB.out) ?_;clear hK;refine zIA [(6,(.bool (!bb)))] 1 ?_ (KB.out _ GB.out) ?_
 ·simp only [zVA,gA9,g09,g19,Act.put,sI9,s09,s19]
  (repeat' (first | exact trivial | refine And.intro (Or.inl ⟨by rfl,?_⟩) ?_)) <;> (intro w hSw;(try dsimp only at hSw);go_simp)
 simp only [actV,gA9,g09,g19,Act.put,sI9,s09,s19];refine zAA (i:=7) (o:=⟨some 4,.assign (.tmp 11),4, "lines.go:75",#[⟨6,.data⟩,⟨5,.chain⟩,⟨0,.phase⟩,⟨1,.phase⟩,⟨2,.phase⟩,⟨3,.phase⟩,⟨4,.phase⟩,⟨5,.phase⟩,⟨6,.phase⟩],none⟩) (by kernel_rfl) rfl (fun K hK=>?_);go_simp;refine hK.out _ _ (fun h=>absurd h (by decide)) ?_;clear hK
 try simp only [Act.put]
 refine zDA (by kernel_rfl) ?_ _;clear GB KB HSF k0 k1 p0 p1 pc;go_wp2;go_ret;exact ⟨rfl,G.out⟩
def zVI (w:World) (X:Nat→Nat→Int) (c:Nat) (y:Int) (n gk:Nat) (s:Value) (wx:World):Prop:=∃i:Nat,s=.int .i64 (i:Int)∧i≤n∧gk=n-i∧(∀t,t<i→0≤X t c∧X t c<y)∧Below w.heap.size w wx
def zgH (w:World) (X:Nat→Nat→Int) (c:Nat) (y:Int) (n:Nat) (e:Ending) (w':World):Prop:=∃r:Int,e=.returned (.int .i64 r)∧(r<0↔∀t,t<n→0≤X t c∧X t c<y)∧Below w.heap.size w w'
theorem indexR18 {w:World} {B m n k c bc bp Lb cap i0:Nat} {gs:Nat→Nat} {X:Nat→Nat→Int} {np:Bool} {ap:Option Addr} {lp cp:Nat} {y:Int} (h:Sh17 B w (.slice (some ⟨Lb,0,none⟩) m cap) m n gs X k) (hi0:i0≤m) (hm:m≤64) (hc:c<n) (pc:Cel w bc 3 [.int .i64 (c:Int)]) (pp:Duo w bp (.bool np) (.slice ap lp cp)) (hy:Zm 0 w (.agg #[.bool np,.slice ap lp cp]) y k) :
  Calls Tryz.prog 88 #[.slice (some ⟨Lb,0,none⟩) i0 cap,ztG bc bp] w (zgH w X c y i0):=by
 have HSH:=hid h;have HPC:=hid pc;have HPP:=hid pp;have HY:=hid hy;have HHC:=hid hc;clear h pc pp hy;have H0:Hid (zVI w X c y i0 i0 (.int .i64 0) w):=⟨0,rfl,Nat.zero_le _,rfl,fun j hj=>by omega,Below.refl _ _⟩
 go_enter Tryz.func88,Tryz.ntmps88;go_wp2_with fail
 go_loopg [8] i0 (fun g s8 wx=>zVI w X c y i0 g s8 wx)
 case atStart=>exact H0.out
 case round =>
  clear H0;obtain ⟨i,rfl,hin,hg,hz,bl⟩:=hrel;have HG:=hid hg;have HZ:=hid hz;have BL:=hid bl;clear hg hz bl
  by_cases hlt:i<i0
  ·have hlt':(i:Int)<(i0:Int):=by omega
   have sh:=HSH.out.now BL.out;have k0:=sh.lineS (i:=i) (by omega);have HS:=hid (red1_18 (sh.2.2 i (by omega)).2 HHC.out ((HPC.out.step BL.out).at (i:=0) rfl) (HPP.out.step BL.out) (HY.out.now BL.out));have hw:=zYA (i:=i) (by omega);clear sh
   by_cases hko:0≤X i c∧X i c<y
   ·rw [decide_eq_true hko] at HS
    have HKO:=hid hko;clear hko;go_wp2_with fail;refine HS.out.mono ?_;rintro e w1 ⟨rfl,b⟩;have HN1:Hid (zVI w X c y i0 (i0-(i+1)) (.int .i64 ((i+1:Nat):Int)) w1):=⟨i+1,rfl,by omega,rfl,fun j hj=>by
     by_cases q:j<i
     ·exact HZ.out j q
     ·obtain rfl:j=i:=by omega
      exact HKO.out,below_step BL.out b⟩
    have HMM:Hid (i0-(i+1)<gk):=by unfold Hid;rw [HG.out];omega
    clear HS HG HZ k0 b HKO;go_wp2_with fail;go_roundg (i0-(i+1))
    case rel=>exact HN1.out
    case measure=>exact HMM.out
   ·rw [decide_eq_false hko] at HS
    have HKO:=hid hko;clear hko;go_wp2_with fail;refine HS.out.mono ?_;rintro e w1 ⟨rfl,b⟩;have FIN:Hid (zgH w X c y i0 (.returned (.int .i64 (i:Int))) w1):=⟨(i:Int),rfl,⟨fun h=>absurd h (by omega),fun h=>absurd (h i hlt) HKO.out⟩,below_step BL.out b⟩
    clear HS HG HZ k0 b HKO;go_wp2;go_ret;exact FIN.out
  ·have hlt':¬(i:Int)<(i0:Int):=by omega
   have FIN:Hid (zgH w X c y i0 (.returned (.int .i64 (-1))) wr):=⟨-1,rfl,⟨fun _ t ht=>HZ.out t (by omega),fun _=>by omega⟩,BL.out⟩
   clear HG HZ;go_wp2;go_ret;exact FIN.out
def zlI (w:World) (X:Nat→Nat→Int) (c:Nat) (y:Int) (n:Nat) (e:Ending) (w':World):Prop:=∃bc:Bool,e=.returned (.bool bc)∧(bc=false↔∀t,t<n→0≤X t c∧X t c<y)∧Below w.heap.size w w'
theorem containsR18 {w:World} {c bc bp Lb cap i0:Nat} {X:Nat→Nat→Int} {y:Int} (h:Calls Tryz.prog 88 #[.slice (some ⟨Lb,0,none⟩) i0 cap,ztG bc bp] w (zgH w X c y i0)) :
  Calls Tryz.prog 65 #[.slice (some ⟨Lb,0,none⟩) i0 cap,ztG bc bp] w (zlI w X c y i0):=by
 have HI:=hid h;clear h;go_enter Tryz.func65,Tryz.ntmps65;go_wp2_with fail;refine HI.out.mono ?_;rintro e w1 ⟨r,rfl,hr,b⟩;have FIN:Hid (zlI w X c y i0 (.returned (.bool (decide (0≤r)))) w1):=⟨_,rfl,by rw [decide_eq_false_iff_not,Int.not_le];exact hr,b⟩
 clear HI hr b;go_wp2;go_ret;exact FIN.out
def zWI (w:World) (X:Nat→Nat→Int) (c:Nat) (y:Int) (n:Nat) (e:Ending) (w':World):Prop:=∃bc:Bool,e=.returned (.bool bc)∧(bc=true↔∀t,t<n→0≤X t c∧X t c<y)∧Below w.heap.size w w'
theorem areReduced18 {w:World} {B m n k c Lb cap i0:Nat} {gs:Nat→Nat} {X:Nat→Nat→Int} {np:Bool} {ap:Option Addr} {lp cp:Nat} {y:Int} (h:Sh17 B w (.slice (some ⟨Lb,0,none⟩) m cap) m n gs X k) (hi0:i0≤m) (hm:m≤64) (hc:c<n) (hy:Zm 0 w (.agg #[.bool np,.slice ap lp cp]) y k) :
  Calls Tryz.prog 40 #[.slice (some ⟨Lb,0,none⟩) i0 cap,.int .i64 (c:Int),.agg #[.bool np,.slice ap lp cp]] w (zWI w X c y i0):=by
 obtain ⟨W0,hW⟩:∃W0,(w.alloc (.cells #[.int .i64 (c:Int)] 3)).alloc (duo (.bool np) (.slice ap lp cp))=W0:=⟨_,rfl⟩
 obtain ⟨b0,sz0⟩:=zSA w (.cells #[.int .i64 (c:Int)] 3) (duo (.bool np) (.slice ap lp cp));rw [hW] at b0 sz0;have pc:Cel W0 w.heap.size 3 [.int .i64 (c:Int)]:=by
  rw [←hW];exact (Cel.new w 3 [.int .i64 (c:Int)]).step ((Below.refl _ _).alloc (Nat.le_refl _) _)
 have pp:Duo W0 (w.heap.size+1) (.bool np) (.slice ap lp cp):=by rw [←hW];exact zEA (by simp)
 have HC:=hid (containsR18 (indexR18 (h.now b0) hi0 hm hc pc pp (hy.now b0)));have G0:=hid b0;have EW:=hid hW;clear h hy b0 hW sz0 pc pp;go_enter Tryz.func40,Tryz.ntmps40;go_wp2_with fail;rw [EW.out];refine HC.out.mono ?_;rintro e w1 ⟨bc,rfl,hr,b⟩;have FIN:Hid (zWI w X c y i0 (.returned (.bool (!bc))) w1):=⟨_,rfl,by rw [←hr];simp,below_step G0.out b⟩
 clear HC hr b G0 EW;go_wp2;go_ret;exact FIN.out
abbrev fnNz18:Value:=.func (.func 38) #[] #[]
theorem cmpI_ne18 {z:Int} (h:z≠0):(cmpI z 0 != 0)=true:=by
 rcases Int.lt_or_gt_of_ne h with q | q
 ·rw [zZA q];rfl
 ·rw [ziA q];rfl
theorem nz18 {w:World} {v:Value} {z:Int} {k:Nat} (h:Zi w v z k):Calls Tryz.prog 38 #[v] w fun e w'=>e=.returned (.bool (z != 0))∧Below w.heap.size w w':=by
 have z0:=h;obtain ⟨n,xs,a,c,rfl,-,-,-⟩:=h;obtain ⟨W0,hW⟩:∃W0,w.alloc (duo (.bool n) (.slice a xs.length c))=W0:=⟨_,rfl⟩
 obtain ⟨b0,sz0⟩:=alo1 w (duo (.bool n) (.slice a xs.length c));rw [hW] at b0 sz0;have HS:=hid (zoA (z0.now b0));have G:=hid b0;have EW:=hid hW;have EB:(cmpI z 0 != 0)=(z != 0):=by
  by_cases q:z=0
  ·subst q;rw [cmpI_self]
  ·rw [cmpI_ne18 q];simp [q]
 have HEB:=hid EB;clear z0 b0 hW sz0 EB;go_enter Tryz.func38,Tryz.ntmps38;go_wp2_with fail;rw [EW.out];refine HS.out.mono ?_;rintro e w1 ⟨rfl,b⟩;have G1:=hid (below_step G.out b);clear b HS;generalize cmpI z 0=cz at *;go_wp2;go_ret;refine ⟨?_,G1.out⟩;rw [←HEB.out]
 rfl
def FstN18 (n:Nat) (zs:List Int) (r:Int):Prop:=(r = -1∧∀j,j<n→zs.getD j 0=0)∨∃c:Nat,r=(c:Int)∧c<n∧(∀j,j<c→zs.getD j 0=0)∧zs.getD c 0≠0
def zRI (w:World) (n:Nat) (zs:List Int) (e:Ending) (w':World):Prop:=∃r:Int,e=.returned (.int .i64 r)∧FstN18 n zs r∧Below w.heap.size w w'
def zQI (w:World) (g n:Nat) (ps:List (Value×Value)) (zs:List Int) (k gk:Nat) (s:Value) (wx:World):Prop :=
 ∃i:Nat,s=.int .i64 (i:Int)∧i≤n∧gk=n-i∧(∀j,j<i→zs.getD j 0=0)∧Arr wx g ps∧Zms wx ps zs k∧Below w.heap.size w wx
theorem index18 {w:World} {g n k:Nat} {ps:List (Value×Value)} {zs:List Int} (hA:Arr w g ps) (hz:Zms w ps zs k) (hl:zs.length=n) (hn:n≤64) :
  Calls Tryz.prog 37 #[.slice (some ⟨g,0,none⟩) n n,fnNz18] w (zRI w n zs):=by
 have H0:Hid (zQI w g n ps zs k n (.int .i64 0) w):=⟨0,rfl,Nat.zero_le _,rfl,fun j hj=>by omega,hA,hz,Below.refl _ _⟩
 have HL:=hid hl;clear hA hz hl;go_enter Tryz.func37,Tryz.ntmps37;go_wp2_with fail
 go_loopg [8] n (fun gk s8 wx=>zQI w g n ps zs k gk s8 wx)
 case atStart=>exact H0.out
 case round =>
  clear H0;obtain ⟨i,rfl,hin,hg,hpos,ar,zr,hG⟩:=hrel;have AR:=hid ar;have ZR:=hid zr;have G:=hid hG;have HG:=hid hg;have HP:=hid hpos;clear ar zr hG hg hpos
  by_cases hlt:i<n
  ·have hlt':(i:Int)<(n:Int):=by omega
   obtain ⟨nf,af,lf,cf,k0,k1,-,-,zf⟩:=ZR.out.at AR.out (t:=i) (by rw [HL.out];exact hlt);have HS:=hid (nz18 zf.zi);have hw:=zYA (i:=i) (by omega);clear zf
   by_cases hp:zs.getD i 0=0
   ·have e0:(zs.getD i 0 != 0)=false:=by rw [hp];rfl
    rw [e0] at HS;have HPP:=hid hp;clear hp e0;go_wp2_with fail;refine HS.out.mono ?_;rintro e w1 ⟨rfl,b⟩;have HN1:Hid (zQI w g n ps zs k (n-(i+1)) (.int .i64 ((i+1:Nat):Int)) w1):=⟨i+1,rfl,by omega,rfl,fun j hj=>by
     by_cases q:j<i
     ·exact HP.out j q
     ·obtain rfl:j=i:=by omega
      exact HPP.out,AR.out.step b,ZR.out.now b,below_step G.out b⟩
    have HMM:Hid (n-(i+1)<gk):=by unfold Hid;rw [HG.out];omega
    clear HS HPP AR ZR G HG HP k0 k1 b;go_wp2_with fail;go_roundg (n-(i+1))
    case rel=>exact HN1.out
    case measure=>exact HMM.out
   ·have e0:(zs.getD i 0 != 0)=true:=by simp only [bne_iff_ne];exact hp
    rw [e0] at HS;have HPP:=hid hp;clear hp e0;go_wp2_with fail;refine HS.out.mono ?_;rintro e w1 ⟨rfl,b⟩;have FIN:Hid (zRI w n zs (.returned (.int .i64 (i:Int))) w1):=⟨(i:Int),rfl,.inr ⟨i,rfl,hlt,HP.out,HPP.out⟩,below_step G.out b⟩
    clear HS HPP AR ZR G HG HP k0 k1 b;go_wp2;go_ret;exact FIN.out
  ·have hlt':¬(i:Int)<(n:Int):=by omega
   have FIN:Hid (zRI w n zs (.returned (.int .i64 (-1))) wr):=⟨-1,rfl,.inl ⟨rfl,fun j hj=>HP.out j (by omega)⟩,G.out⟩
   clear AR ZR G HG HP;go_wp2;go_ret;exact FIN.out
theorem zRC {B:Nat} {w0 w w':World} {v:Value} {l:List Nat} (h:Below B w0 w) (hB:B≤w.heap.size) (ho:Ivs B w v l) (hg:w.grownBy w' v.ownBlock):Below B w0 w' :=
 h.trans ⟨hg.os,hg.tape,hg.output,hg.size,fun k hk=>hg.block k (by omega) (fun e=>by have:=(ho.blk e.symm).1;omega)⟩
def zhB (γ:Nat→Nat) (i:Nat):List Nat:=(List.range i).map γ
theorem zhA (γ:Nat→Nat) (i:Nat):(zhB γ i).length=i:=by simp [zhB]
theorem pvL18_more (γ:Nat→Nat) (i:Nat):zhB γ (i+1)=zhB γ i ++ [γ i]:=by simp [zhB,List.range_succ]
theorem zPB {w:World} {va:Value} {A:Int} {ka:Nat} (ha:Zi w va A ka) (hk:ka≤1099511627776) :
  Calls Tryz.prog 20 #[va] w (fun e w'=>e=.returned (.int .i64 (cmpI A 0))∧Below w.heap.size w w'):=by
 have za0:=ha;obtain ⟨na,xa,aa,ca,rfl,sa,ea,la⟩:=ha;obtain ⟨W0,hW0⟩:∃W0,w.alloc (duo (.bool na) (.slice aa xa.length ca))=W0:=⟨_,rfl⟩
 obtain ⟨b0,sz0⟩:=zbE w (duo (.bool na) (.slice aa xa.length ca));rw [hW0] at b0 sz0;have pa:Duo W0 (w.heap.size) (.bool na) (.slice aa xa.length ca):=by rw [←hW0];exact zEA (by simp)
 have Pa:=hid pa;have ia0:=pa.c0;have ia1:=pa.c1;have Za:=hid (za0.now b0);have Sa:=hid (sa.now b0);have EW:=hid hW0;have G:=hid b0;clear b0 hW0 za0 sa pa ;clear ea;have key:Hid (∀n (xs:List Int),zLA xs→(xs=[]→n=false)→iv n xs=A→(n=true∧cmpI A 0 = -1)∨(n=false∧(0:Int)<xs.length∧cmpI A 0=1)∨(n=false∧¬(0:Int)<xs.length∧cmpI A 0=0)):=fun n xs hc hn e=>by
  have hv:=zHA hc.1;have h0:xs≠[]→val xs≠0:=fun q e=>q (zfB hc e)
  cases n
  ·rw [znD] at e
   by_cases q:xs=[]
   ·subst q;exact .inr (.inr ⟨rfl,by simp,by rw [←e];simp [val,cmpI]⟩)
   ·have:=h0 q
    exact .inr (.inl ⟨rfl,by have:=List.length_pos_iff.2 q;omega,ziA (by omega)⟩)
  ·rw [zPE] at e
   by_cases q:xs=[]
   ·exact absurd (hn q) (by simp)
   ·have:=h0 q
    exact .inl ⟨rfl,zZA (by omega)⟩
 go_enter Tryz.func20,Tryz.ntmps20;go_wp2_with fail;rw [EW.out];clear ia0 ia1;refine (zFG Za.out hk).mono ?_;rintro e w1 ⟨r,rfl,m1,b⟩;obtain ⟨n1,x1,a1,q1,rfl,-,t1,t2,t3,-⟩:=m1;have KK:=hid (key.out n1 x1 t1 t2 t3);have B1:=hid (below_step (below_step G.out b) (zbE w1 (duo (.bool n1) (.slice a1 x1.length q1))).1);clear b t1 t2 t3 key;rcases KK.out with ⟨rfl,e⟩ | ⟨rfl,hp,e⟩ | ⟨rfl,hp,e⟩
 all_goals
  have HE:=hid e;clear e KK;go_wp2;go_ret;exact ⟨by rw [HE.out];rfl,B1.out⟩
theorem rcmpAbs_z {w:World} {va vb:Value} {A B:Int} {ka kb:Nat} (ha:Zi w va A ka) (hb:Zi w vb B kb) (hk:ka≤1099511627776) (hl:kb≤1099511627776) :
  Calls Tryz.prog 36 #[va,vb] w (fun e w'=>e=.returned (.int .i64 (cmpI (A.natAbs:Int) (B.natAbs:Int)))∧Below w.heap.size w w'):=by
 have za0:=ha;obtain ⟨na,xa,aa,ca,rfl,sa,ea,la⟩:=ha;have zb0:=hb;obtain ⟨nb,xb,ab,cb,rfl,sb,eb,lb⟩:=hb;obtain ⟨W0,hW0⟩:∃W0,(w.alloc (duo (.bool na) (.slice aa xa.length ca))).alloc (duo (.bool nb) (.slice ab xb.length cb))=W0:=⟨_,rfl⟩
 obtain ⟨b0,sz0⟩:=zSA w (duo (.bool na) (.slice aa xa.length ca)) (duo (.bool nb) (.slice ab xb.length cb));rw [hW0] at b0 sz0;have pa:Duo W0 (w.heap.size) (.bool na) (.slice aa xa.length ca):=by rw [←hW0];exact zCA (zEA (by simp)) _
 have pb:Duo W0 (w.heap.size+1) (.bool nb) (.slice ab xb.length cb):=by rw [←hW0];exact zEA (by simp)
 have Pa:=hid pa;have ia0:=pa.c0;have ia1:=pa.c1;have Za:=hid (za0.now b0);have Sa:=hid (sa.now b0);have Pb:=hid pb;have ib0:=pb.c0;have ib1:=pb.c1;have Zb:=hid (zb0.now b0);have Sb:=hid (sb.now b0);have EW:=hid hW0;have G:=hid b0;clear b0 hW0 za0 sa pa zb0 sb pb ;have HC:=hid (zGG Sa.out Sb.out (by omega) (by omega));have ga:=zgC Sa.out.1 ea;have gb:=zgC Sb.out.1 eb;rw [ga,gb] at HC;clear ga gb;clear ea eb;generalize cmpI (A.natAbs:Int) (B.natAbs:Int)=C at *;go_enter Tryz.func36,Tryz.ntmps36;go_wp2_with fail;rw [EW.out];clear ia0 ia1 ib0 ib1;refine HC.out.mono ?_;rintro e w1 ⟨rfl,b⟩;have B1:=hid (below_step G.out b);clear b HC;go_wp2;go_ret;exact ⟨rfl,B1.out⟩
theorem zkH {w:World} {va vb:Value} {A B:Int} {ka kb:Nat} (ha:Zi w va A ka) (hb:Zi w vb B kb) (hk:ka≤1099511627776) (hl:kb≤1099511627776) :
  Calls Tryz.prog 21 #[va,vb] w (fun e w'=>e=.returned (.int .i64 (cmpI A B))∧Below w.heap.size w w'):=by
 have za0:=ha;obtain ⟨na,xa,aa,ca,rfl,sa,ea,la⟩:=ha;have zb0:=hb;obtain ⟨nb,xb,ab,cb,rfl,sb,eb,lb⟩:=hb;obtain ⟨W0,hW0⟩:∃W0,(w.alloc (duo (.bool na) (.slice aa xa.length ca))).alloc (duo (.bool nb) (.slice ab xb.length cb))=W0:=⟨_,rfl⟩
 obtain ⟨b0,sz0⟩:=zSA w (duo (.bool na) (.slice aa xa.length ca)) (duo (.bool nb) (.slice ab xb.length cb));rw [hW0] at b0 sz0;have pa:Duo W0 (w.heap.size) (.bool na) (.slice aa xa.length ca):=by rw [←hW0];exact zCA (zEA (by simp)) _
 have pb:Duo W0 (w.heap.size+1) (.bool nb) (.slice ab xb.length cb):=by rw [←hW0];exact zEA (by simp)
 have Pa:=hid pa;have ia0:=pa.c0;have ia1:=pa.c1;have Za:=hid (za0.now b0);have Sa:=hid (sa.now b0);have Pb:=hid pb;have ib0:=pb.c0;have ib1:=pb.c1;have Zb:=hid (zb0.now b0);have Sb:=hid (sb.now b0);have EW:=hid hW0;have G:=hid b0;clear b0 hW0 za0 sa pa zb0 sb pb ;clear ea eb;have H1:Hid (∀w',Below W0.heap.size W0 w'→_):=fun w' h=>zPB (Za.out.now h) hk
 have H2:Hid (∀w',Below W0.heap.size W0 w'→_):=fun w' h=>zPB (Zb.out.now h) hl
 have H3:Hid (∀w',Below W0.heap.size W0 w'→_):=fun w' h=>rcmpAbs_z (Za.out.now h) (Zb.out.now h) hk hl
 have bd:=zOA A 0;have bd2:=zOA (A.natAbs:Int) (B.natAbs:Int);have HS:Hid ((cmpI A 0=cmpI B 0→cmpI A 0*cmpI (A.natAbs:Int) (B.natAbs:Int)=cmpI A B)∧(cmpI A 0<cmpI B 0→cmpI A B = -1)∧(cmpI B 0<cmpI A 0→cmpI A B=1)):=by
  unfold Hid cmpI;refine ⟨?_,?_,?_⟩ <;> intro h <;> (repeat' split at h) <;> (repeat' split) <;> omega
 generalize cmpI A 0=S at *;generalize cmpI B 0=T at *;generalize cmpI (A.natAbs:Int) (B.natAbs:Int)=U at *;generalize cmpI A B=R at *;go_enter Tryz.func21,Tryz.ntmps21;go_wp2_with fail;rw [EW.out];clear ia0 ia1 ib0 ib1;refine (H1.out W0 (Below.refl _ _)).mono ?_;rintro e w1 ⟨rfl,b⟩;have B1:=hid b;replace Pa:=hid (Pa.out.step b);have ia0:=Pa.out.c0;have ia1:=Pa.out.c1;replace Pb:=hid (Pb.out.step b);have ib0:=Pb.out.c0;have ib1:=Pb.out.c1;replace G:=hid (below_step G.out b);clear b;go_wp2_with fail;clear ia0 ia1 ib0 ib1;refine (H2.out w1 B1.out).mono ?_;rintro e w2 ⟨rfl,b⟩;have B2:=hid (below_step B1.out b);replace Pa:=hid (Pa.out.step b);have ia0:=Pa.out.c0;have ia1:=Pa.out.c1;replace Pb:=hid (Pb.out.step b);have ib0:=Pb.out.c0;have ib1:=Pb.out.c1;replace G:=hid (below_step G.out b);clear b;rcases (show S=T∨S<T∨T<S by omega) with h | h | h
 ·have hne:(S != T)=false:=by simp [h]
  have HR:=hid (HS.out.1 h);have hm:IntKind.i64.wrap (S*U)=R:=by
   rw [HR.out,zWA] <;> rw [←HR.out]
   all_goals (obtain ⟨q1,q2⟩:=bd;obtain ⟨q3,q4⟩:=bd2;rcases (show S = -1∨S=0∨S=1 by omega) with e | e | e <;> rw [e] <;> omega)
  clear h HS;go_wp2_with fail;clear ia0 ia1 ib0 ib1;refine (H3.out w2 B2.out).mono ?_;rintro e w3 ⟨rfl,b⟩;have B3:=hid (below_step G.out b);clear b;go_wp2;go_ret;exact ⟨by first | rfl | rw [hm],B3.out⟩
 ·have hne:(S != T)=true:=by simp;omega
  have HR:=hid (HS.out.2.1 h);clear HS;go_wp2;go_ret;exact ⟨by rw [HR.out];rfl,G.out⟩
 ·have hne:(S != T)=true:=by simp;omega
  have h':¬S<T:=by omega
  have HR:=hid (HS.out.2.2 h);clear HS;go_wp2;go_ret;exact ⟨by rw [HR.out];rfl,G.out⟩
end Go.Proofs.YtefpboopafdhpaaGreat
