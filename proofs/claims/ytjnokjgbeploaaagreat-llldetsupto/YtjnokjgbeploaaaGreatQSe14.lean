import Derived.Test.YtjnokjgbeploaaaGreatQXc14
import Derived.Test.YtjnokjgbeploaaaGreatQZOnesToZCmp
set_option maxRecDepth 100000
set_option maxHeartbeats 6400000
set_option linter.unusedVariables false
set_option linter.unusedSimpArgs false
namespace Go.Proofs.YtjnokjgbeploaaaGreat
open Go.RowKit
structure zBE (A:Nat→Nat→Int) (m n:Nat) (bs os:List Nat) (F:Nat→Nat→Int) (d:Int) (rk i:Nat):Prop where
 tb:Tbl A m n (gd bs) (gd os) F d
 hi:∀r,i≤r→r<m→bs.getD r 0=n+r
 lo:∀r,r<i→n≤bs.getD r 0→∀j,j<n→os.getD j 0<n→F r j=0
 cnt:rk=((List.range i).filter fun r=>decide (bs.getD r 0<n)).length
theorem zLI {l:List Nat} {p y:Nat} (h:p<l.length):gd (l.set p y)=stf (gd l) p y:=by
 funext t
 show (l.set p y).getD t 0=if t=p then y else l.getD t 0
 by_cases e:t=p
 ·subst e;rw [if_pos rfl];simp [h]
 ·rw [if_neg e];simp [List.getElem?_set_ne (Ne.symm e)]
def exQ (A:Nat→Nat→Int) (m n:Nat) (f g:Nat→Nat) (p q:Nat):Nat→Nat→Int:=fun i j=>if j=q then 0 else dcl A m n (stf (stf f p (g q)) i (g j))
theorem zYH {A:Nat→Nat→Int} {m n:Nat} {f g:Nat→Nat} {F:Nat→Nat→Int} {d:Int} (h:Tbl A m n f g F d) {p q i j:Nat} (hp:p<m) (hq:q<n) (hi:i<m) (hj:j<n) (hip:i≠p):F p q*F i j-F i q*F p j=d*exQ A m n f g p q i j:=by
 unfold exQ
 by_cases e:j=q
 ·subst e;rw [if_pos rfl];grind
 ·rw [if_neg e];exact h.cross hp hq hi hj hip
theorem exQ_fit {A:Nat→Nat→Int} {m n k:Nat} {f g:Nat→Nat} {p q:Nat} (h:∀f,((dcl A m n f).natAbs:Int)<pw k) (i j:Nat):((exQ A m n f g p q i j).natAbs:Int)<pw k:=by
 unfold exQ
 split
 ·have:=h (fun _=>0)
  have h2:(0:Int)≤((dcl A m n fun _=>0).natAbs:Int):=Int.natCast_nonneg _
  simp
  omega
 ·exact h _
theorem filt_succ {P:Nat→Bool} {i:Nat} (h:P i=true):((List.range (i+1)).filter P).length=((List.range i).filter P).length+1:=by rw [List.range_succ,List.filter_append];simp [h]
theorem filt_skip {P:Nat→Bool} {i:Nat} (h:P i=false):((List.range (i+1)).filter P).length=((List.range i).filter P).length:=by rw [List.range_succ,List.filter_append];simp [h]
theorem filt_congr14 {P Q:Nat→Bool} {i:Nat} (h:∀r,r<i→P r=Q r):(List.range i).filter P=(List.range i).filter Q:=List.filter_congr fun r hr=>h r (by simpa using hr)
theorem zBE.skip {A:Nat→Nat→Int} {m n:Nat} {bs os:List Nat} {F:Nat→Nat→Int} {d:Int} {rk i:Nat} (h:zBE A m n bs os F d rk i) (hi:i<m) (hz:∀j,j<n→os.getD j 0<n→F i j=0):zBE A m n bs os F d rk (i+1):=by
 refine ⟨h.tb,fun r h1 h2=>h.hi r (by omega) h2,fun r h1 h2=>?_,?_⟩
 ·by_cases e:r=i
  ·subst e;exact hz
  ·exact h.lo r (by omega) h2
 ·rw [filt_skip (by rw [h.hi i (Nat.le_refl _) hi];simp)];exact h.cnt
theorem zBE.keep {A:Nat→Nat→Int} {m n:Nat} {bs os:List Nat} {F:Nat→Nat→Int} {d:Int} {rk i q:Nat} (h:zBE A m n bs os F d rk i) (lb:bs.length=m) (lo:os.length=n) (hi:i<m) (hq:q<n) (ho:os.getD q 0<n) (hn:F i q≠0) :
  zBE A m n (bs.set i (os.getD q 0)) (os.set q (bs.getD i 0)) (exch F d i q (exQ A m n (gd bs) (gd os) i q)) (F i q) (rk+1) (i+1):=by
 have eb:=zLI (l:=bs) (p:=i) (y:=os.getD q 0) (by omega);have eo:=zLI (l:=os) (p:=q) (y:=bs.getD i 0) (by omega);have eb':∀r,(bs.set i (os.getD q 0)).getD r 0=if r=i then os.getD q 0 else bs.getD r 0:=fun r=>congrFun eb r
 have eo':∀r,(os.set q (bs.getD i 0)).getD r 0=if r=q then bs.getD i 0 else os.getD r 0:=fun r=>congrFun eo r
 have hbi:=h.hi i (Nat.le_refl _) hi;refine ⟨?_,fun r h1 h2=>?_,fun r h1 h2 j hj hoj=>?_,?_⟩
 ·rw [eb,eo]
  exact h.tb.exchange hi hq hn fun a b ha hb h1 h2=>(zYH h.tb hi hq ha hb h1).symm
 ·rw [eb' r,if_neg (by omega)];exact h.hi r (by omega) h2
 ·rw [eb' r] at h2
  rw [eo' j] at hoj
  by_cases e:r=i
  ·rw [if_pos e] at h2;omega
  ·rw [if_neg e] at h2
   by_cases ej:j=q
   ·rw [if_pos ej] at hoj;omega
   ·rw [if_neg ej] at hoj
    unfold exch;rw [if_neg e,if_neg ej];have hr:r<i:=by omega
    have h3:=zYH h.tb (p:=i) (q:=q) (i:=r) (j:=j) hi hq (by omega) hj e;rw [h.lo r hr h2 j hj hoj,h.lo r hr h2 q hq ho,Int.mul_zero,Int.zero_mul,Int.sub_zero] at h3;rcases Int.mul_eq_zero.1 h3.symm with q1 | q1
    ·exact absurd q1 h.tb.nz
    ·exact q1
 ·rw [filt_succ (P:=fun r=>decide ((bs.set i (os.getD q 0)).getD r 0<n)) (by rw [eb' i,if_pos rfl];simpa using ho),filt_congr14 (Q:=fun r=>decide (bs.getD r 0<n)) fun r hr=>by rw [eb' r,if_neg (by omega)],←h.cnt]
theorem cmpI_zero14 {z:Int} (h:cmpI z 0=0):z=0:=by unfold cmpI at h;split at h <;> (try split at h) <;> omega
abbrev S14 (bt ga gb go:Nat):Nat→Prop:=fun b=>b=ga∨b=gb∨b=go∨b=bt
def SeH (A:Nat→Nat→Int) (w:World) (bt ga gb go m n k gk:Nat) (s:Value) (wx:World):Prop :=
 ∃(i:Nat) (bs os:List Nat) (F:Nat→Nat→Int) (d:Int) (rk:Nat),s=.int .i64 (i:Int)∧i≤m∧gk=m-i∧TabM wx bt ga gb go m n bs os F d rk k∧zBE A m n bs os F d rk i∧zLA (S14 bt ga gb go) w wx
def SjH (Wi:World) (n i:Nat) (os:List Nat) (F:Nat→Nat→Int) (gk:Nat) (s:Value) (wx:World):Prop :=
 ∃j:Nat,s=.int .i64 (j:Int)∧j≤n∧gk=n-j∧(∀t,t<j→os.getD t 0<n→F i t=0)∧Below Wi.heap.size Wi wx
theorem TabM.now {w w':World} {bt ga gb go m n:Nat} {bs os:List Nat} {F:Nat→Nat→Int} {d:Int} {rk k:Nat} (h:TabM w bt ga gb go m n bs os F d rk k) (b:Below w.heap.size w w'):TabM w' bt ga gb go m n bs os F d rk k:=by
 obtain ⟨ab,cb,nd,ad,ld,cd,h1,h2,h3,h4⟩:=h.box;exact ⟨⟨ab,cb,nd,ad,ld,cd,h1.step b,h2.now b,h3,fun q=>⟨(h4 q).1,(h4 q).2.choose,(h4 q).2.choose_spec.step b⟩⟩,h.arr.step b,h.oth.step b,h.ne,h.lb,h.lo,h.hm,h.hn,h.rk64⟩
theorem TabM.rank {w:World} {bt ga gb go m n:Nat} {bs os:List Nat} {F:Nat→Nat→Int} {d:Int} {rk k:Nat} (h:TabM w bt ga gb go m n bs os F d rk k) {rk':Nat} (hr:rk'≤64):TabM (w.setCell ⟨bt,7,none⟩ (.int .i64 (rk':Int))) bt ga gb go m n bs os F d rk' k:=by
 obtain ⟨ab,cb,nd,ad,ld,cd,h1,h2,h3,h4⟩:=h.box;have ty:Ty 103 w (w.setCell ⟨bt,7,none⟩ (.int .i64 (rk':Int))):=Ty.set h1;exact ⟨⟨ab,cb,nd,ad,ld,cd,h1.set 7 _,h2.ty ty (by decide),h3,fun q=>⟨(h4 q).1,(h4 q).2.choose,(h4 q).2.choose_spec.ty13 ty (by decide)⟩⟩,h.arr.ty ty (by decide) (by decide),h.oth.ty13 ty (by decide),h.ne,h.lb,h.lo,h.hm,h.hn,hr⟩
theorem TabM.cel {w:World} {bt ga gb go m n:Nat} {bs os:List Nat} {F:Nat→Nat→Int} {d:Int} {rk k:Nat} (h:TabM w bt ga gb go m n bs os F d rk k):∃vb x y,Cel w bt 103 (tbL m n rk (.slice (some ⟨ga,0,none⟩) (m*n) (m*n)) vb (.slice (some ⟨go,0,none⟩) n n) x y):=by
 obtain ⟨ab,cb,nd,ad,ld,cd,h1,-,-,-⟩:=h.box;exact ⟨_,_,_,h1⟩
theorem cnt_le {P:Nat→Bool} {i:Nat}:((List.range i).filter P).length≤i:=by
 have:=List.length_filter_le P (List.range i)
 simpa using this
def znH (A:Nat→Nat→Int) (w:World) (bt ga gb go m n k:Nat) (e:Ending) (w':World):Prop :=
 e=.returned (.tuple #[])∧∃(bs os:List Nat) (F:Nat→Nat→Int) (d:Int) (rk:Nat),TabM w' bt ga gb go m n bs os F d rk k∧zBE A m n bs os F d rk m∧zLA (S14 bt ga gb go) w w'
theorem settle_any {A:Nat→Nat→Int} {w:World} {bt ga gb go m n:Nat} {bs os:List Nat} {F:Nat→Nat→Int} {d:Int} {rk k:Nat} (hM:TabM w bt ga gb go m n bs os F d rk k) (hS:zBE A m n bs os F d 0 0) (hn0:0<n) (hfit:∀f,((dcl A m n f).natAbs:Int)<pw k) (hk:k≤274877906944) :
  Calls Tryz.prog 69 #[.pointer (some ⟨bt,0,none⟩)] w (znH A w bt ga gb go m n k):=by
 obtain ⟨vb0,x0_,y0_,hcel⟩:=hM.cel;have hm64:=hM.hm;have hn64:=hM.hn;have HFIT:=hid hfit;have HK:=hid hk;obtain ⟨mn,hmn⟩:∃mn,m*n=mn:=⟨_,rfl⟩
 rw [hmn] at hcel;have EMN:=hid hmn;have hmn4:mn≤4096:=by rw [←hmn];exact Nat.mul_le_mul hm64 hn64
 have e7:=hcel.at (i:=7) rfl;have f7:=hcel.fz 7;obtain ⟨W0,hW⟩:∃W0,w.setCell ⟨bt,7,none⟩ (.int .i64 0)=W0:=⟨_,rfl⟩
 have TM0:Hid (TabM W0 bt ga gb go m n bs os F d 0 k):=by unfold Hid;rw [←hW];exact hM.rank (rk':=0) (by omega)
 have TC0:Hid (zLA (S14 bt ga gb go) w W0):=by unfold Hid;rw [←hW];exact (zLA.refl _ _).setCell (.inr (.inr (.inr (.inr rfl)))) _ _
 have H0:Hid (SeH A w bt ga gb go m n k m (.int .i64 0) W0):=⟨0,bs,os,F,d,0,rfl,Nat.zero_le _,by omega,TM0.out,hS,TC0.out⟩
 obtain ⟨vb1,x1_,y1_,hcel1⟩:=TM0.out.cel;have e0:=hcel1.at (i:=0) rfl;rw [←hW] at e0;have EW:=hid hW;clear hM hS hfit hk hcel hcel1 hW hmn TM0 TC0;go_enter Tryz.func69,Tryz.ntmps69;go_wp2_with fail;rw [EW.out];clear EW e0 e7 f7
 go_loopg [14] m (fun gk s14 wx=>SeH A w bt ga gb go m n k gk s14 wx)
 case atStart=>exact H0.out
 case round =>
  clear H0;obtain ⟨i,bs,os,F,d,rk,rfl,him,hgk,htm,hst,htc⟩:=hrel;have TM:=hid htm;have ST:=hid hst;have TC:=hid htc;have HG:=hid hgk;clear htm hst htc hgk
  by_cases hlt:i<m
  ·have hlt':(i:Int)<(m:Int):=by omega
   have hwi:=zNA (i:=i) (by omega);have HMM:Hid (m-(i+1)<gk):=by unfold Hid;rw [HG.out];omega
   obtain ⟨vb,x_,y_,hcel⟩:=TM.out.cel;rw [EMN.out] at hcel;have hwin:IntKind.i64.wrap ((i:Int)*(n:Int))=((i*n:Nat):Int):=zXC (i:=i) (c:=n) (by omega) (by omega);have hwin2:IntKind.i64.wrap (((i:Int)+1)*(n:Int))=(((i+1)*n:Nat):Int):=by
    have:=zXC (i:=i+1) (c:=n) (by omega) (by omega);rw [Int.natCast_add] at this;exact this
   have hend:(i+1)*n≤mn:=by rw [←EMN.out];exact Nat.mul_le_mul_right n hlt
   have hsucc:(i+1)*n=i*n+n:=Nat.succ_mul i n;obtain ⟨i_n,hin⟩:∃i_n,i*n=i_n:=⟨_,rfl⟩
   rw [hsucc] at hwin2 hend;rw [hin] at hwin hwin2 hend;have EIN:=hid hin;obtain ⟨ie,hie⟩:∃ie,i_n+n=ie:=⟨_,rfl⟩
   rw [hie] at hwin2 hend;have hi1:(i_n:Int)≤(ie:Int):=by omega
   have hi2:(ie:Int)≤(mn:Int):=by omega
   have hi3:¬mn=i_n:=by omega
   have hlen:ie-i_n=n:=by omega
   have t1:=hcel.at (i:=1) rfl;have t2:=hcel.at (i:=2) rfl;clear HG hcel hsucc hin hie;go_wp2_with fail
   go_cut [3] from 15 to 75 (fun s1 wx=>s1=(.slice (some ⟨ga,i_n*2,none⟩) n (mn-i_n))∧Below wr.heap.size wr wx)
   case first =>
    have KB:Hid (∀w',Below wr.heap.size wr w'→w'.cell? ⟨bt,1,none⟩=some (.int .i64 (n:Int))∧w'.cell? ⟨bt,2,none⟩=some (.slice (some ⟨ga,0,none⟩) mn mn)):=fun w' h=>⟨cnow h t1,cnow h t2⟩
    refine zDA (fun w'=>w'.cell? ⟨bt,1,none⟩=some (.int .i64 (n:Int))∧w'.cell? ⟨bt,2,none⟩=some (.slice (some ⟨ga,0,none⟩) mn mn)) 21 (by kernel_rfl) ?_;obtain ⟨D1,hD⟩:∃D1,wr.drew=D1:=⟨_,rfl⟩
    have GB:Hid (Below wr.heap.size wr D1):=by unfold Hid;rw [←hD];exact (Below.refl _ _).drew
    rw [hD];clear hD;refine zAA (i:=0) (oi:=⟨some 17,.move (.tmp 0),84, "table.go:48",#[],none⟩) (v:=(.pointer (some ⟨bt,0,none⟩))) rfl (by kernel_rfl) (fun _ _ _ h=>h) (Or.inl ⟨by rfl,?_⟩) (KB.out _ GB.out) ?_
    ·intro w hSw;(try dsimp only at hSw);go_simp
    simp only [Act.put,sIb,sC0,sC1];refine zAA (i:=1) (oi:=⟨some 18,.nilCheck (.tmp 17),0, "table.go:48",#[⟨0,.data⟩],none⟩) (v:=(.pointer (some ⟨bt,0,none⟩))) rfl (by kernel_rfl) (fun _ _ _ h=>h) (Or.inl ⟨by rfl,?_⟩) (KB.out _ GB.out) ?_
    ·intro w hSw;(try dsimp only at hSw);go_simp
    simp only [Act.put,sIb,sC0,sC1];refine zAA (i:=2) (oi:=⟨some 19,.fieldAddr 103 (.tmp 18) 0,0, "table.go:48",#[⟨1,.data⟩],none⟩) (v:=(.pointer (some ⟨bt,0,none⟩))) rfl (by kernel_rfl) (fun _ _ _ h=>h) (Or.inl ⟨by rfl,?_⟩) (KB.out _ GB.out) ?_
    ·intro w hSw;(try dsimp only at hSw);go_simp
    simp only [Act.put,sIb,sC0,sC1];refine zAA (i:=3) (oi:=⟨some 20,.fieldAddr 24 (.tmp 19) 2,0, "table.go:48",#[⟨2,.data⟩],none⟩) (v:=(.pointer (some ⟨bt,2,none⟩))) rfl (by kernel_rfl) (fun _ _ _ h=>h) (Or.inl ⟨by rfl,?_⟩) (KB.out _ GB.out) ?_
    ·intro w hSw;(try dsimp only at hSw);go_simp
    simp only [Act.put,sIb,sC0,sC1];refine zAA (i:=4) (oi:=⟨some 21,.load 22 (.tmp 20),22, "table.go:48",#[⟨3,.data⟩],none⟩) (v:=(.slice (some ⟨ga,0,none⟩) mn mn)) rfl (by kernel_rfl) (fun _ _ _ h=>h) (Or.inl ⟨by rfl,?_⟩) (KB.out _ GB.out) ?_
    ·intro w hSw;(try dsimp only at hSw);go_simp
    simp only [Act.put,sIb,sC0,sC1];refine zAA (i:=5) (oi:=⟨some 22,.move (.tmp 2),3, "table.go:48",#[],none⟩) (v:=(.int .i64 (i:Int))) rfl (by kernel_rfl) (fun _ _ _ h=>h) (Or.inl ⟨by rfl,?_⟩) (KB.out _ GB.out) ?_
    ·intro w hSw;(try dsimp only at hSw);go_simp
    simp only [Act.put,sIb,sC0,sC1];refine zAA (i:=6) (oi:=⟨some 23,.move (.tmp 0),84, "table.go:48",#[],none⟩) (v:=(.pointer (some ⟨bt,0,none⟩))) rfl (by kernel_rfl) (fun _ _ _ h=>h) (Or.inl ⟨by rfl,?_⟩) (KB.out _ GB.out) ?_
    ·intro w hSw;(try dsimp only at hSw);go_simp
    simp only [Act.put,sIb,sC0,sC1];refine zAA (i:=7) (oi:=⟨some 24,.nilCheck (.tmp 23),0, "table.go:48",#[⟨6,.data⟩],none⟩) (v:=(.pointer (some ⟨bt,0,none⟩))) rfl (by kernel_rfl) (fun _ _ _ h=>h) (Or.inl ⟨by rfl,?_⟩) (KB.out _ GB.out) ?_
    ·intro w hSw;(try dsimp only at hSw);go_simp
    simp only [Act.put,sIb,sC0,sC1];refine zAA (i:=8) (oi:=⟨some 25,.fieldAddr 103 (.tmp 24) 0,0, "table.go:48",#[⟨7,.data⟩],none⟩) (v:=(.pointer (some ⟨bt,0,none⟩))) rfl (by kernel_rfl) (fun _ _ _ h=>h) (Or.inl ⟨by rfl,?_⟩) (KB.out _ GB.out) ?_
    ·intro w hSw;(try dsimp only at hSw);go_simp
    simp only [Act.put,sIb,sC0,sC1];refine zAA (i:=9) (oi:=⟨some 26,.fieldAddr 24 (.tmp 25) 1,0, "table.go:48",#[⟨8,.data⟩],none⟩) (v:=(.pointer (some ⟨bt,1,none⟩))) rfl (by kernel_rfl) (fun _ _ _ h=>h) (Or.inl ⟨by rfl,?_⟩) (KB.out _ GB.out) ?_
    ·intro w hSw;(try dsimp only at hSw);go_simp
    simp only [Act.put,sIb,sC0,sC1];refine zAA (i:=10) (oi:=⟨some 27,.load 3 (.tmp 26),3, "table.go:48",#[⟨9,.data⟩],none⟩) (v:=(.int .i64 (n:Int))) rfl (by kernel_rfl) (fun _ _ _ h=>h) (Or.inl ⟨by rfl,?_⟩) (KB.out _ GB.out) ?_
    ·intro w hSw;(try dsimp only at hSw);go_simp
    simp only [Act.put,sIb,sC0,sC1];refine zAA (i:=11) (oi:=⟨some 28,.binOp .mul 3 (.tmp 22) (.tmp 27) 3,3, "table.go:48",#[⟨5,.data⟩,⟨10,.data⟩],none⟩) (v:=(.int .i64 (i_n:Int))) rfl (by kernel_rfl) (fun _ _ _ h=>h) (Or.inl ⟨by rfl,?_⟩) (KB.out _ GB.out) ?_
    ·intro w hSw;(try dsimp only at hSw);go_simp
    simp only [Act.put,sIb,sC0,sC1];refine zAA (i:=12) (oi:=⟨some 29,.move (.tmp 2),3, "table.go:48",#[],none⟩) (v:=(.int .i64 (i:Int))) rfl (by kernel_rfl) (fun _ _ _ h=>h) (Or.inl ⟨by rfl,?_⟩) (KB.out _ GB.out) ?_
    ·intro w hSw;(try dsimp only at hSw);go_simp
    simp only [Act.put,sIb,sC0,sC1];refine zAA (i:=13) (oi:=⟨some 30,.binOp .add 3 (.tmp 29) (.const (.int .i64 1)) 3,3, "table.go:48",#[⟨12,.data⟩],none⟩) (v:=(.int .i64 ((i+1:Nat):Int))) rfl (by kernel_rfl) (fun _ _ _ h=>h) (Or.inl ⟨by rfl,?_⟩) (KB.out _ GB.out) ?_
    ·intro w hSw;(try dsimp only at hSw);go_simp
    simp only [Act.put,sIb,sC0,sC1];refine zAA (i:=14) (oi:=⟨some 31,.move (.tmp 0),84, "table.go:48",#[],none⟩) (v:=(.pointer (some ⟨bt,0,none⟩))) rfl (by kernel_rfl) (fun _ _ _ h=>h) (Or.inl ⟨by rfl,?_⟩) (KB.out _ GB.out) ?_
    ·intro w hSw;(try dsimp only at hSw);go_simp
    simp only [Act.put,sIb,sC0,sC1];refine zAA (i:=15) (oi:=⟨some 32,.nilCheck (.tmp 31),0, "table.go:48",#[⟨14,.data⟩],none⟩) (v:=(.pointer (some ⟨bt,0,none⟩))) rfl (by kernel_rfl) (fun _ _ _ h=>h) (Or.inl ⟨by rfl,?_⟩) (KB.out _ GB.out) ?_
    ·intro w hSw;(try dsimp only at hSw);go_simp
    simp only [Act.put,sIb,sC0,sC1];refine zAA (i:=16) (oi:=⟨some 33,.fieldAddr 103 (.tmp 32) 0,0, "table.go:48",#[⟨15,.data⟩],none⟩) (v:=(.pointer (some ⟨bt,0,none⟩))) rfl (by kernel_rfl) (fun _ _ _ h=>h) (Or.inl ⟨by rfl,?_⟩) (KB.out _ GB.out) ?_
    ·intro w hSw;(try dsimp only at hSw);go_simp
    simp only [Act.put,sIb,sC0,sC1];refine zAA (i:=17) (oi:=⟨some 34,.fieldAddr 24 (.tmp 33) 1,0, "table.go:48",#[⟨16,.data⟩],none⟩) (v:=(.pointer (some ⟨bt,1,none⟩))) rfl (by kernel_rfl) (fun _ _ _ h=>h) (Or.inl ⟨by rfl,?_⟩) (KB.out _ GB.out) ?_
    ·intro w hSw;(try dsimp only at hSw);go_simp
    simp only [Act.put,sIb,sC0,sC1];refine zAA (i:=18) (oi:=⟨some 35,.load 3 (.tmp 34),3, "table.go:48",#[⟨17,.data⟩],none⟩) (v:=(.int .i64 (n:Int))) rfl (by kernel_rfl) (fun _ _ _ h=>h) (Or.inl ⟨by rfl,?_⟩) (KB.out _ GB.out) ?_
    ·intro w hSw;(try dsimp only at hSw);go_simp
    simp only [Act.put,sIb,sC0,sC1];refine zAA (i:=19) (oi:=⟨some 36,.binOp .mul 3 (.tmp 30) (.tmp 35) 3,3, "table.go:48",#[⟨13,.data⟩,⟨18,.data⟩],none⟩) (v:=(.int .i64 (ie:Int))) rfl (by kernel_rfl) (fun _ _ _ h=>h) (Or.inl ⟨by rfl,?_⟩) (KB.out _ GB.out) ?_
    ·intro w hSw;(try dsimp only at hSw);go_simp
    simp only [Act.put,sIb,sC0,sC1];refine zAA (i:=20) (oi:=⟨some 37,.slice 22 (.tmp 21) (some (.tmp 28)) (some (.tmp 36)) none,22, "table.go:48",#[⟨4,.data⟩,⟨11,.data⟩,⟨19,.data⟩],none⟩) (v:=(.slice (some ⟨ga,i_n*2,none⟩) n (mn-i_n))) rfl (by kernel_rfl) (fun _ _ _ h=>h) (Or.inl ⟨by rfl,?_⟩) (KB.out _ GB.out) ?_
    ·intro w hSw;(try dsimp only at hSw);go_simp
    simp only [Act.put,sIb,sC0,sC1];refine zCA (i:=21) (o:=⟨some 3,.assign (.tmp 37),22, "table.go:48",#[⟨20,.data⟩,⟨0,.phase⟩,⟨1,.phase⟩,⟨2,.phase⟩,⟨3,.phase⟩,⟨4,.phase⟩,⟨5,.phase⟩,⟨6,.phase⟩,⟨7,.phase⟩,⟨8,.phase⟩,⟨9,.phase⟩,⟨10,.phase⟩,⟨11,.phase⟩,⟨12,.phase⟩,⟨13,.phase⟩,⟨14,.phase⟩,⟨15,.phase⟩,⟨16,.phase⟩,⟨17,.phase⟩,⟨18,.phase⟩,⟨19,.phase⟩,⟨20,.phase⟩],none⟩) (by kernel_rfl) rfl (fun K hK=>?_);go_simp;refine hK.out _ _ (fun h=>absurd h (by decide)) ?_;clear hK
    try simp only [Act.put]
    refine zFA (by kernel_rfl) ?_ _;have FN4:Hid (Below wr.heap.size wr D1):=GB.out;clear GB KB;go_wp2_with fail;go_meet;exact ⟨rfl,FN4.out⟩
   case rest =>
   rename World=>Wi
   obtain ⟨rfl,b⟩:=hcut;have TMI:=hid (TM.out.now b);have TCI:Hid (zLA (S14 bt ga gb go) w Wi):=TC.out.trans (.ofBelow b);have H1:Hid (SjH Wi n i os F n (.int .i64 0) Wi):=⟨0,rfl,Nat.zero_le _,by omega,fun t ht=>by omega,Below.refl _ _⟩
   clear b TM TC t1 t2 hwin hwin2 hi1 hi2 hi3 hlen;go_wp2_with fail
   go_loopg [40] n (fun gk s40 wx=>SjH Wi n i os F gk s40 wx)
   case atStart=>exact H1.out
   case round =>
    clear H1;obtain ⟨j,rfl,hjn,hgk,hjz,hb⟩:=hrel;have HJZ:=hid hjz;have HG:=hid hgk;have TM:=hid (TMI.out.now hb);have TC:Hid (zLA (S14 bt ga gb go) w wr):=TCI.out.trans (.ofBelow hb);have BW:=hid hb;clear hjz hgk hb
    by_cases hlt2:j<n
    ·have hlt2':(j:Int)<(n:Int):=by omega
     have hwj:=zNA (i:=j) (by omega);have HM2:Hid (n-(j+1)<gk):=by unfold Hid;rw [HG.out];omega
     obtain ⟨nx,ax,lx,cx,v0,v1,-,-,zx⟩:=TM.out.arr.at hlt hlt2;rw [EIN.out,Nat.add_mul] at v0 v1;obtain ⟨V1,hV⟩:∃V1,wr.alloc (duo (.bool nx) (.slice ax lx cx))=V1:=⟨_,rfl⟩
     obtain ⟨b,sz1⟩:=alo1 wr (duo (.bool nx) (.slice ax lx cx));rw [hV] at b sz1;have PN:Hid (Duo V1 wr.heap.size (.bool nx) (.slice ax lx cx)):=by unfold Hid;rw [←hV];exact Duo.new wr _ _
     have TM1:=hid (TM.out.now b);have TC1:Hid (zLA (S14 bt ga gb go) w V1):=TC.out.trans (.ofBelow b);have BW1:=hid (zBA BW.out b);have ZX:=hid (zx.now b);obtain ⟨vb,x_,y_,hcel⟩:=TM1.out.cel;rw [EMN.out] at hcel;have t1:=hcel.at (i:=1) rfl;have t4:=hcel.at (i:=4) rfl;have t7:=hcel.at (i:=7) rfl;have o0:V1.cell? ⟨go,j,none⟩=some (.int .i64 (os.getD j 0:Nat)):=TM1.out.oth.nf hlt2;have n0:=PN.out.c0;have n1:=PN.out.c1;obtain ⟨oj,hoj⟩:∃oj,os.getD j 0=oj:=⟨_,rfl⟩
     rw [hoj] at o0;have EOJ:=hid hoj;have EV:=hid hV;clear zx hV b sz1 PN TM TC BW HG hcel hoj;go_upto_region 8 with fail
     rw [EV.out];clear EV v0 v1
     by_cases ho:oj<n
     ·have ho':(oj:Int)<(n:Int):=by omega
      have ho2:decide ((oj:Int)<(n:Int))=true:=decide_eq_true ho'
      by_cases hz:F i j=0
      ·have HN1:Hid (∀wx,Below V1.heap.size V1 wx→SjH Wi n i os F (n-(j+1)) (.int .i64 ((j+1:Nat):Int)) wx):=fun wx hb=>⟨j+1,rfl,by omega,rfl,fun t ht h2=>by
        by_cases e:t=j
        ·subst e;exact hz
        ·exact HJZ.out t (by omega) h2,zBA BW1.out hb⟩
       rw [hz] at ZX;have hq:=cmpI_self (0:Int);have KB:Hid (∀w',Below V1.heap.size V1 w'→w'.cell? ⟨bt,1,none⟩=some (.int .i64 (n:Int))∧w'.cell? ⟨bt,4,none⟩=some (.slice (some ⟨go,0,none⟩) n n)∧w'.cell? ⟨go,j,none⟩=some (.int .i64 (oj:Int))∧w'.cell? ⟨wr.heap.size,0,none⟩=some (.bool nx)∧w'.cell? ⟨wr.heap.size,1,none⟩=some (.slice ax lx cx)):=fun w' h=>⟨cnow h t1,cnow h t4,cnow h o0,cnow h n0,cnow h n1⟩
       refine zDA (fun w'=>w'.cell? ⟨bt,1,none⟩=some (.int .i64 (n:Int))∧w'.cell? ⟨bt,4,none⟩=some (.slice (some ⟨go,0,none⟩) n n)∧w'.cell? ⟨go,j,none⟩=some (.int .i64 (oj:Int))∧w'.cell? ⟨wr.heap.size,0,none⟩=some (.bool nx)∧w'.cell? ⟨wr.heap.size,1,none⟩=some (.slice ax lx cx)) 17 (by kernel_rfl) ?_;obtain ⟨D21,hD⟩:∃D21,V1.drew=D21:=⟨_,rfl⟩
       have GB:Hid (Below V1.heap.size V1 D21):=by unfold Hid;rw [←hD];exact (Below.refl _ _).drew
       rw [hD];clear hD;refine zAA (i:=0) (oi:=⟨some 45,.move (.tmp 0),84, "table.go:50",#[],none⟩) (v:=(.pointer (some ⟨bt,0,none⟩))) rfl (by kernel_rfl) (fun _ _ _ h=>h) (Or.inl ⟨by rfl,?_⟩) (KB.out _ GB.out) ?_
       ·intro w hSw;(try dsimp only at hSw);go_simp
       simp only [Act.put,sIb,sC0,sC1];refine zAA (i:=1) (oi:=⟨some 46,.nilCheck (.tmp 45),0, "table.go:50",#[⟨0,.data⟩],none⟩) (v:=(.pointer (some ⟨bt,0,none⟩))) rfl (by kernel_rfl) (fun _ _ _ h=>h) (Or.inl ⟨by rfl,?_⟩) (KB.out _ GB.out) ?_
       ·intro w hSw;(try dsimp only at hSw);go_simp
       simp only [Act.put,sIb,sC0,sC1];refine zAA (i:=2) (oi:=⟨some 47,.fieldAddr 103 (.tmp 46) 2,0, "table.go:50",#[⟨1,.data⟩],none⟩) (v:=(.pointer (some ⟨bt,4,none⟩))) rfl (by kernel_rfl) (fun _ _ _ h=>h) (Or.inl ⟨by rfl,?_⟩) (KB.out _ GB.out) ?_
       ·intro w hSw;(try dsimp only at hSw);go_simp
       simp only [Act.put,sIb,sC0,sC1];refine zAA (i:=3) (oi:=⟨some 48,.load 47 (.tmp 47),47, "table.go:50",#[⟨2,.data⟩],none⟩) (v:=(.slice (some ⟨go,0,none⟩) n n)) rfl (by kernel_rfl) (fun _ _ _ h=>h) (Or.inl ⟨by rfl,?_⟩) (KB.out _ GB.out) ?_
       ·intro w hSw;(try dsimp only at hSw);go_simp
       simp only [Act.put,sIb,sC0,sC1];refine zAA (i:=4) (oi:=⟨some 49,.move (.tmp 4),3, "table.go:50",#[],none⟩) (v:=(.int .i64 (j:Int))) rfl (by kernel_rfl) (fun _ _ _ h=>h) (Or.inl ⟨by rfl,?_⟩) (KB.out _ GB.out) ?_
       ·intro w hSw;(try dsimp only at hSw);go_simp
       simp only [Act.put,sIb,sC0,sC1];refine zAA (i:=5) (oi:=⟨some 50,.indexAddr 47 (.tmp 48) (.tmp 49),0, "table.go:50",#[⟨3,.data⟩,⟨4,.data⟩],none⟩) (v:=(.pointer (some ⟨go,j,none⟩))) rfl (by kernel_rfl) (fun _ _ _ h=>h) (Or.inl ⟨by rfl,?_⟩) (KB.out _ GB.out) ?_
       ·intro w hSw;(try dsimp only at hSw);go_simp
       simp only [Act.put,sIb,sC0,sC1];refine zAA (i:=6) (oi:=⟨some 51,.load 3 (.tmp 50),3, "table.go:50",#[⟨5,.data⟩],none⟩) (v:=(.int .i64 (oj:Int))) rfl (by kernel_rfl) (fun _ _ _ h=>h) (Or.inl ⟨by rfl,?_⟩) (KB.out _ GB.out) ?_
       ·intro w hSw;(try dsimp only at hSw);go_simp
       simp only [Act.put,sIb,sC0,sC1];refine zAA (i:=7) (oi:=⟨some 52,.move (.tmp 0),84, "table.go:50",#[],none⟩) (v:=(.pointer (some ⟨bt,0,none⟩))) rfl (by kernel_rfl) (fun _ _ _ h=>h) (Or.inl ⟨by rfl,?_⟩) (KB.out _ GB.out) ?_
       ·intro w hSw;(try dsimp only at hSw);go_simp
       simp only [Act.put,sIb,sC0,sC1];refine zAA (i:=8) (oi:=⟨some 53,.nilCheck (.tmp 52),0, "table.go:50",#[⟨7,.data⟩],none⟩) (v:=(.pointer (some ⟨bt,0,none⟩))) rfl (by kernel_rfl) (fun _ _ _ h=>h) (Or.inl ⟨by rfl,?_⟩) (KB.out _ GB.out) ?_
       ·intro w hSw;(try dsimp only at hSw);go_simp
       simp only [Act.put,sIb,sC0,sC1];refine zAA (i:=9) (oi:=⟨some 54,.fieldAddr 103 (.tmp 53) 0,0, "table.go:50",#[⟨8,.data⟩],none⟩) (v:=(.pointer (some ⟨bt,0,none⟩))) rfl (by kernel_rfl) (fun _ _ _ h=>h) (Or.inl ⟨by rfl,?_⟩) (KB.out _ GB.out) ?_
       ·intro w hSw;(try dsimp only at hSw);go_simp
       simp only [Act.put,sIb,sC0,sC1];refine zAA (i:=10) (oi:=⟨some 55,.fieldAddr 24 (.tmp 54) 1,0, "table.go:50",#[⟨9,.data⟩],none⟩) (v:=(.pointer (some ⟨bt,1,none⟩))) rfl (by kernel_rfl) (fun _ _ _ h=>h) (Or.inl ⟨by rfl,?_⟩) (KB.out _ GB.out) ?_
       ·intro w hSw;(try dsimp only at hSw);go_simp
       simp only [Act.put,sIb,sC0,sC1];refine zAA (i:=11) (oi:=⟨some 56,.load 3 (.tmp 55),3, "table.go:50",#[⟨10,.data⟩],none⟩) (v:=(.int .i64 (n:Int))) rfl (by kernel_rfl) (fun _ _ _ h=>h) (Or.inl ⟨by rfl,?_⟩) (KB.out _ GB.out) ?_
       ·intro w hSw;(try dsimp only at hSw);go_simp
       simp only [Act.put,sIb,sC0,sC1];refine zAA (i:=12) (oi:=⟨some 57,.binOp .lss 3 (.tmp 51) (.tmp 56) 3,4, "table.go:50",#[⟨6,.data⟩,⟨11,.data⟩],none⟩) (v:=(.bool true)) rfl (by kernel_rfl) (fun _ _ _ h=>h) (Or.inl ⟨by rfl,?_⟩) (KB.out _ GB.out) ?_
       ·intro w hSw;(try dsimp only at hSw);go_simp
       simp only [Act.put,sIb,sC0,sC1];refine zAA (i:=13) (oi:=⟨some 58,.move (.tmp 57),4, "table.go:50",#[⟨12,.data⟩],none⟩) (v:=(.bool true)) rfl (by kernel_rfl) (fun _ _ _ h=>h) (Or.inl ⟨by rfl,?_⟩) (KB.out _ GB.out) ?_
       ·intro w hSw;(try dsimp only at hSw);go_simp
       simp only [Act.put,sIb,sC0,sC1];refine zAA (i:=14) (oi:=⟨some 59,.load 39 (.tmp 5),39, "table.go:50",#[⟨13,.guard⟩],some (13,true)⟩) (v:=(.agg #[.bool nx,.slice ax lx cx])) rfl (by kernel_rfl) (fun _ _ _ h=>h) (Or.inl ⟨by rfl,?_⟩) (KB.out _ GB.out) ?_
       ·intro w hSw;(try dsimp only at hSw);go_simp
       simp only [Act.put,sIb,sC0,sC1];refine zCA (i:=15) (o:=⟨some 60,.call { callee:=.value (.func 14),args:=#[.tmp 59],argTypes:=#[39] },3, "table.go:50",#[⟨14,.data⟩,⟨13,.chain⟩,⟨13,.guard⟩],some (13,true)⟩) (by kernel_rfl) rfl (fun K hK=>?_);go_simp;go_at_call 14;refine (zoB (ZX.out.now GB.out).zi).mono ?_;rintro e w22 ⟨rfl,b⟩;have lz22:=(show Below _ _ _ from b).size;replace GB:=hid (zBA GB.out b);clear b;refine hK.out _ _ (fun _=>KB.out _ GB.out) ?_;clear hK;refine zAA (i:=16) (oi:=⟨some 61,.binOp .neq 3 (.tmp 60) (.const (.int .i64 0)) 3,4, "table.go:50",#[⟨15,.data⟩,⟨13,.guard⟩],some (13,true)⟩) (v:=(.bool false)) rfl (by kernel_rfl) (fun _ _ _ h=>h) (Or.inl ⟨by rfl,?_⟩) (KB.out _ GB.out) ?_
       ·intro w hSw;(try dsimp only at hSw);go_simp
       simp only [Act.put,sIb,sC0,sC1];refine zCA (i:=17) (o:=⟨some 62,.pick (.tmp 58) (.tmp 61) (.const (.bool false)),4, "table.go:50",#[⟨13,.data⟩,⟨16,.data⟩],none⟩) (by kernel_rfl) rfl (fun K hK=>?_);go_simp;refine hK.out _ _ (fun h=>absurd h (by decide)) ?_;clear hK
       try simp only [Act.put]
       refine zFA (by kernel_rfl) ?_ _;have HN2:=hid (HN1.out _ GB.out);clear GB KB HN1;go_wp2_with fail;go_roundg (n-(j+1))
       case rel=>exact HN2.out
       case measure=>exact HM2.out
      ·have hq:¬cmpI (F i j) 0=0:=fun e=>hz (cmpI_zero14 e)
       have hqb:(cmpI (F i j) 0 != 0)=true:=by simpa using hq
       have HSX:Hid (∀wx,Below V1.heap.size V1 wx→Calls Tryz.prog 79 #[.pointer (some ⟨bt,0,none⟩),.int .i64 (i:Int),.int .i64 (j:Int)] wx (Xchd wx bt ga gb go m n bs os F d rk k i j (exQ A m n (gd bs) (gd os) i j))):=fun wx hb=>exchange_any (TM1.out.now hb) hlt hlt2 ST.out.tb.nz (fun a c ha hc h1=>zYH ST.out.tb hlt hlt2 ha hc h1) (fun a c _ _=>exQ_fit HFIT.out a c) HK.out
       have HKP:=hid (ST.out.keep TM1.out.lb TM1.out.lo hlt hlt2 (by rw [EOJ.out];exact ho) hz);have HRK:Hid (rk+1≤i+1):=by unfold Hid;have:=ST.out.cnt;rw [this];have:=@cnt_le (fun r=>decide (bs.getD r 0<n)) i;omega
       obtain ⟨cq,hcq⟩:∃cq,cmpI (F i j) 0=cq:=⟨_,rfl⟩
       have HCQ:Hid (∀wx,Below V1.heap.size V1 wx→Calls Tryz.prog 14 #[.agg #[.bool nx,.slice ax lx cx]] wx fun e w'=>e=.returned (.int .i64 cq)∧Below wx.heap.size wx w'):=fun wx hb=>by rw [←hcq];exact zoB (ZX.out.now hb).zi
       rw [hcq] at hq hqb;clear hcq;have KB:Hid (∀w',Below V1.heap.size V1 w'→w'.cell? ⟨bt,1,none⟩=some (.int .i64 (n:Int))∧w'.cell? ⟨bt,4,none⟩=some (.slice (some ⟨go,0,none⟩) n n)∧w'.cell? ⟨go,j,none⟩=some (.int .i64 (oj:Int))∧w'.cell? ⟨wr.heap.size,0,none⟩=some (.bool nx)∧w'.cell? ⟨wr.heap.size,1,none⟩=some (.slice ax lx cx)):=fun w' h=>⟨cnow h t1,cnow h t4,cnow h o0,cnow h n0,cnow h n1⟩
       refine zDA (fun w'=>w'.cell? ⟨bt,1,none⟩=some (.int .i64 (n:Int))∧w'.cell? ⟨bt,4,none⟩=some (.slice (some ⟨go,0,none⟩) n n)∧w'.cell? ⟨go,j,none⟩=some (.int .i64 (oj:Int))∧w'.cell? ⟨wr.heap.size,0,none⟩=some (.bool nx)∧w'.cell? ⟨wr.heap.size,1,none⟩=some (.slice ax lx cx)) 17 (by kernel_rfl) ?_;obtain ⟨D41,hD⟩:∃D41,V1.drew=D41:=⟨_,rfl⟩
       have GB:Hid (Below V1.heap.size V1 D41):=by unfold Hid;rw [←hD];exact (Below.refl _ _).drew
       rw [hD];clear hD;refine zAA (i:=0) (oi:=⟨some 45,.move (.tmp 0),84, "table.go:50",#[],none⟩) (v:=(.pointer (some ⟨bt,0,none⟩))) rfl (by kernel_rfl) (fun _ _ _ h=>h) (Or.inl ⟨by rfl,?_⟩) (KB.out _ GB.out) ?_
       ·intro w hSw;(try dsimp only at hSw);go_simp
       simp only [Act.put,sIb,sC0,sC1];refine zAA (i:=1) (oi:=⟨some 46,.nilCheck (.tmp 45),0, "table.go:50",#[⟨0,.data⟩],none⟩) (v:=(.pointer (some ⟨bt,0,none⟩))) rfl (by kernel_rfl) (fun _ _ _ h=>h) (Or.inl ⟨by rfl,?_⟩) (KB.out _ GB.out) ?_
       ·intro w hSw;(try dsimp only at hSw);go_simp
       simp only [Act.put,sIb,sC0,sC1];refine zAA (i:=2) (oi:=⟨some 47,.fieldAddr 103 (.tmp 46) 2,0, "table.go:50",#[⟨1,.data⟩],none⟩) (v:=(.pointer (some ⟨bt,4,none⟩))) rfl (by kernel_rfl) (fun _ _ _ h=>h) (Or.inl ⟨by rfl,?_⟩) (KB.out _ GB.out) ?_
       ·intro w hSw;(try dsimp only at hSw);go_simp
       simp only [Act.put,sIb,sC0,sC1];refine zAA (i:=3) (oi:=⟨some 48,.load 47 (.tmp 47),47, "table.go:50",#[⟨2,.data⟩],none⟩) (v:=(.slice (some ⟨go,0,none⟩) n n)) rfl (by kernel_rfl) (fun _ _ _ h=>h) (Or.inl ⟨by rfl,?_⟩) (KB.out _ GB.out) ?_
       ·intro w hSw;(try dsimp only at hSw);go_simp
       simp only [Act.put,sIb,sC0,sC1];refine zAA (i:=4) (oi:=⟨some 49,.move (.tmp 4),3, "table.go:50",#[],none⟩) (v:=(.int .i64 (j:Int))) rfl (by kernel_rfl) (fun _ _ _ h=>h) (Or.inl ⟨by rfl,?_⟩) (KB.out _ GB.out) ?_
       ·intro w hSw;(try dsimp only at hSw);go_simp
       simp only [Act.put,sIb,sC0,sC1];refine zAA (i:=5) (oi:=⟨some 50,.indexAddr 47 (.tmp 48) (.tmp 49),0, "table.go:50",#[⟨3,.data⟩,⟨4,.data⟩],none⟩) (v:=(.pointer (some ⟨go,j,none⟩))) rfl (by kernel_rfl) (fun _ _ _ h=>h) (Or.inl ⟨by rfl,?_⟩) (KB.out _ GB.out) ?_
       ·intro w hSw;(try dsimp only at hSw);go_simp
       simp only [Act.put,sIb,sC0,sC1];refine zAA (i:=6) (oi:=⟨some 51,.load 3 (.tmp 50),3, "table.go:50",#[⟨5,.data⟩],none⟩) (v:=(.int .i64 (oj:Int))) rfl (by kernel_rfl) (fun _ _ _ h=>h) (Or.inl ⟨by rfl,?_⟩) (KB.out _ GB.out) ?_
       ·intro w hSw;(try dsimp only at hSw);go_simp
       simp only [Act.put,sIb,sC0,sC1];refine zAA (i:=7) (oi:=⟨some 52,.move (.tmp 0),84, "table.go:50",#[],none⟩) (v:=(.pointer (some ⟨bt,0,none⟩))) rfl (by kernel_rfl) (fun _ _ _ h=>h) (Or.inl ⟨by rfl,?_⟩) (KB.out _ GB.out) ?_
       ·intro w hSw;(try dsimp only at hSw);go_simp
       simp only [Act.put,sIb,sC0,sC1];refine zAA (i:=8) (oi:=⟨some 53,.nilCheck (.tmp 52),0, "table.go:50",#[⟨7,.data⟩],none⟩) (v:=(.pointer (some ⟨bt,0,none⟩))) rfl (by kernel_rfl) (fun _ _ _ h=>h) (Or.inl ⟨by rfl,?_⟩) (KB.out _ GB.out) ?_
       ·intro w hSw;(try dsimp only at hSw);go_simp
       simp only [Act.put,sIb,sC0,sC1];refine zAA (i:=9) (oi:=⟨some 54,.fieldAddr 103 (.tmp 53) 0,0, "table.go:50",#[⟨8,.data⟩],none⟩) (v:=(.pointer (some ⟨bt,0,none⟩))) rfl (by kernel_rfl) (fun _ _ _ h=>h) (Or.inl ⟨by rfl,?_⟩) (KB.out _ GB.out) ?_
       ·intro w hSw;(try dsimp only at hSw);go_simp
       simp only [Act.put,sIb,sC0,sC1];refine zAA (i:=10) (oi:=⟨some 55,.fieldAddr 24 (.tmp 54) 1,0, "table.go:50",#[⟨9,.data⟩],none⟩) (v:=(.pointer (some ⟨bt,1,none⟩))) rfl (by kernel_rfl) (fun _ _ _ h=>h) (Or.inl ⟨by rfl,?_⟩) (KB.out _ GB.out) ?_
       ·intro w hSw;(try dsimp only at hSw);go_simp
       simp only [Act.put,sIb,sC0,sC1];refine zAA (i:=11) (oi:=⟨some 56,.load 3 (.tmp 55),3, "table.go:50",#[⟨10,.data⟩],none⟩) (v:=(.int .i64 (n:Int))) rfl (by kernel_rfl) (fun _ _ _ h=>h) (Or.inl ⟨by rfl,?_⟩) (KB.out _ GB.out) ?_
       ·intro w hSw;(try dsimp only at hSw);go_simp
       simp only [Act.put,sIb,sC0,sC1];refine zAA (i:=12) (oi:=⟨some 57,.binOp .lss 3 (.tmp 51) (.tmp 56) 3,4, "table.go:50",#[⟨6,.data⟩,⟨11,.data⟩],none⟩) (v:=(.bool true)) rfl (by kernel_rfl) (fun _ _ _ h=>h) (Or.inl ⟨by rfl,?_⟩) (KB.out _ GB.out) ?_
       ·intro w hSw;(try dsimp only at hSw);go_simp
       simp only [Act.put,sIb,sC0,sC1];refine zAA (i:=13) (oi:=⟨some 58,.move (.tmp 57),4, "table.go:50",#[⟨12,.data⟩],none⟩) (v:=(.bool true)) rfl (by kernel_rfl) (fun _ _ _ h=>h) (Or.inl ⟨by rfl,?_⟩) (KB.out _ GB.out) ?_
       ·intro w hSw;(try dsimp only at hSw);go_simp
       simp only [Act.put,sIb,sC0,sC1];refine zAA (i:=14) (oi:=⟨some 59,.load 39 (.tmp 5),39, "table.go:50",#[⟨13,.guard⟩],some (13,true)⟩) (v:=(.agg #[.bool nx,.slice ax lx cx])) rfl (by kernel_rfl) (fun _ _ _ h=>h) (Or.inl ⟨by rfl,?_⟩) (KB.out _ GB.out) ?_
       ·intro w hSw;(try dsimp only at hSw);go_simp
       simp only [Act.put,sIb,sC0,sC1];refine zCA (i:=15) (o:=⟨some 60,.call { callee:=.value (.func 14),args:=#[.tmp 59],argTypes:=#[39] },3, "table.go:50",#[⟨14,.data⟩,⟨13,.chain⟩,⟨13,.guard⟩],some (13,true)⟩) (by kernel_rfl) rfl (fun K hK=>?_);go_simp;go_at_call 14;refine (HCQ.out _ GB.out).mono ?_;rintro e w42 ⟨rfl,b⟩;have lz42:=(show Below _ _ _ from b).size;replace GB:=hid (zBA GB.out b);clear b;refine hK.out _ _ (fun _=>KB.out _ GB.out) ?_;clear hK;refine zAA (i:=16) (oi:=⟨some 61,.binOp .neq 3 (.tmp 60) (.const (.int .i64 0)) 3,4, "table.go:50",#[⟨15,.data⟩,⟨13,.guard⟩],some (13,true)⟩) (v:=(.bool true)) rfl (by kernel_rfl) (fun _ _ _ h=>h) (Or.inl ⟨by rfl,?_⟩) (KB.out _ GB.out) ?_
       ·intro w hSw;(try dsimp only at hSw);go_simp
       simp only [Act.put,sIb,sC0,sC1];refine zCA (i:=17) (o:=⟨some 62,.pick (.tmp 58) (.tmp 61) (.const (.bool false)),4, "table.go:50",#[⟨13,.data⟩,⟨16,.data⟩],none⟩) (by kernel_rfl) rfl (fun K hK=>?_);go_simp;refine hK.out _ _ (fun h=>absurd h (by decide)) ?_;clear hK
       try simp only [Act.put]
       refine zFA (by kernel_rfl) ?_ _;have HX1:=hid (HSX.out _ GB.out);have TC2:Hid (zLA (S14 bt ga gb go) w w42):=TC1.out.trans (.ofBelow GB.out);clear GB KB HSX HCQ TM1 TC1 BW1 ZX t1 t4 t7 o0 n0 n1;go_wp2_with fail;refine HX1.out.mono ?_;rintro e w50 ⟨rfl,htm,hth⟩;have TM2:=hid htm;have TC3:Hid (zLA (S14 bt ga gb go) w w50):=TC2.out.trans hth;obtain ⟨vb,x_,y_,hcel⟩:=TM2.out.cel;have t7:=hcel.at (i:=7) rfl;have g7:=hcel.fz 7;have hrk:=HRK.out;have hwr:=zNA (i:=rk) (by omega);have HN2:Hid (SeH A w bt ga gb go m n k (m-(i+1)) (.int .i64 ((i+1:Nat):Int)) (w50.setCell ⟨bt,7,none⟩ (.int .i64 ((rk+1:Nat):Int)))):=⟨i+1,_,_,_,_,rk+1,rfl,by omega,rfl,TM2.out.rank (by omega),HKP.out,TC3.out.setCell (.inr (.inr (.inr (.inr rfl)))) _ _⟩
       clear HX1 TC2 htm hth TM2 TC3 hcel HKP;go_wp2_with fail;go_roundg (m-(i+1))
       case rel=>exact HN2.out
       case measure=>exact HMM.out
     ·have ho':¬(oj:Int)<(n:Int):=by omega
      have ho2:decide ((oj:Int)<(n:Int))=false:=decide_eq_false ho';have HN1:Hid (∀wx,Below V1.heap.size V1 wx→SjH Wi n i os F (n-(j+1)) (.int .i64 ((j+1:Nat):Int)) wx):=fun wx hb=>⟨j+1,rfl,by omega,rfl,fun t ht h2=>by
        by_cases e:t=j
        ·subst e;rw [EOJ.out] at h2;exact absurd h2 ho
        ·exact HJZ.out t (by omega) h2,zBA BW1.out hb⟩
      have KB:Hid (∀w',Below V1.heap.size V1 w'→w'.cell? ⟨bt,1,none⟩=some (.int .i64 (n:Int))∧w'.cell? ⟨bt,4,none⟩=some (.slice (some ⟨go,0,none⟩) n n)∧w'.cell? ⟨go,j,none⟩=some (.int .i64 (oj:Int))):=fun w' h=>⟨cnow h t1,cnow h t4,cnow h o0⟩
      refine zDA (fun w'=>w'.cell? ⟨bt,1,none⟩=some (.int .i64 (n:Int))∧w'.cell? ⟨bt,4,none⟩=some (.slice (some ⟨go,0,none⟩) n n)∧w'.cell? ⟨go,j,none⟩=some (.int .i64 (oj:Int))) 17 (by kernel_rfl) ?_;obtain ⟨D61,hD⟩:∃D61,V1.drew=D61:=⟨_,rfl⟩
      have GB:Hid (Below V1.heap.size V1 D61):=by unfold Hid;rw [←hD];exact (Below.refl _ _).drew
      rw [hD];clear hD;refine zAA (i:=0) (oi:=⟨some 45,.move (.tmp 0),84, "table.go:50",#[],none⟩) (v:=(.pointer (some ⟨bt,0,none⟩))) rfl (by kernel_rfl) (fun _ _ _ h=>h) (Or.inl ⟨by rfl,?_⟩) (KB.out _ GB.out) ?_
      ·intro w hSw;(try dsimp only at hSw);go_simp
      simp only [Act.put,sIb,sC0,sC1];refine zAA (i:=1) (oi:=⟨some 46,.nilCheck (.tmp 45),0, "table.go:50",#[⟨0,.data⟩],none⟩) (v:=(.pointer (some ⟨bt,0,none⟩))) rfl (by kernel_rfl) (fun _ _ _ h=>h) (Or.inl ⟨by rfl,?_⟩) (KB.out _ GB.out) ?_
      ·intro w hSw;(try dsimp only at hSw);go_simp
      simp only [Act.put,sIb,sC0,sC1];refine zAA (i:=2) (oi:=⟨some 47,.fieldAddr 103 (.tmp 46) 2,0, "table.go:50",#[⟨1,.data⟩],none⟩) (v:=(.pointer (some ⟨bt,4,none⟩))) rfl (by kernel_rfl) (fun _ _ _ h=>h) (Or.inl ⟨by rfl,?_⟩) (KB.out _ GB.out) ?_
      ·intro w hSw;(try dsimp only at hSw);go_simp
      simp only [Act.put,sIb,sC0,sC1];refine zAA (i:=3) (oi:=⟨some 48,.load 47 (.tmp 47),47, "table.go:50",#[⟨2,.data⟩],none⟩) (v:=(.slice (some ⟨go,0,none⟩) n n)) rfl (by kernel_rfl) (fun _ _ _ h=>h) (Or.inl ⟨by rfl,?_⟩) (KB.out _ GB.out) ?_
      ·intro w hSw;(try dsimp only at hSw);go_simp
      simp only [Act.put,sIb,sC0,sC1];refine zAA (i:=4) (oi:=⟨some 49,.move (.tmp 4),3, "table.go:50",#[],none⟩) (v:=(.int .i64 (j:Int))) rfl (by kernel_rfl) (fun _ _ _ h=>h) (Or.inl ⟨by rfl,?_⟩) (KB.out _ GB.out) ?_
      ·intro w hSw;(try dsimp only at hSw);go_simp
      simp only [Act.put,sIb,sC0,sC1];refine zAA (i:=5) (oi:=⟨some 50,.indexAddr 47 (.tmp 48) (.tmp 49),0, "table.go:50",#[⟨3,.data⟩,⟨4,.data⟩],none⟩) (v:=(.pointer (some ⟨go,j,none⟩))) rfl (by kernel_rfl) (fun _ _ _ h=>h) (Or.inl ⟨by rfl,?_⟩) (KB.out _ GB.out) ?_
      ·intro w hSw;(try dsimp only at hSw);go_simp
      simp only [Act.put,sIb,sC0,sC1];refine zAA (i:=6) (oi:=⟨some 51,.load 3 (.tmp 50),3, "table.go:50",#[⟨5,.data⟩],none⟩) (v:=(.int .i64 (oj:Int))) rfl (by kernel_rfl) (fun _ _ _ h=>h) (Or.inl ⟨by rfl,?_⟩) (KB.out _ GB.out) ?_
      ·intro w hSw;(try dsimp only at hSw);go_simp
      simp only [Act.put,sIb,sC0,sC1];refine zAA (i:=7) (oi:=⟨some 52,.move (.tmp 0),84, "table.go:50",#[],none⟩) (v:=(.pointer (some ⟨bt,0,none⟩))) rfl (by kernel_rfl) (fun _ _ _ h=>h) (Or.inl ⟨by rfl,?_⟩) (KB.out _ GB.out) ?_
      ·intro w hSw;(try dsimp only at hSw);go_simp
      simp only [Act.put,sIb,sC0,sC1];refine zAA (i:=8) (oi:=⟨some 53,.nilCheck (.tmp 52),0, "table.go:50",#[⟨7,.data⟩],none⟩) (v:=(.pointer (some ⟨bt,0,none⟩))) rfl (by kernel_rfl) (fun _ _ _ h=>h) (Or.inl ⟨by rfl,?_⟩) (KB.out _ GB.out) ?_
      ·intro w hSw;(try dsimp only at hSw);go_simp
      simp only [Act.put,sIb,sC0,sC1];refine zAA (i:=9) (oi:=⟨some 54,.fieldAddr 103 (.tmp 53) 0,0, "table.go:50",#[⟨8,.data⟩],none⟩) (v:=(.pointer (some ⟨bt,0,none⟩))) rfl (by kernel_rfl) (fun _ _ _ h=>h) (Or.inl ⟨by rfl,?_⟩) (KB.out _ GB.out) ?_
      ·intro w hSw;(try dsimp only at hSw);go_simp
      simp only [Act.put,sIb,sC0,sC1];refine zAA (i:=10) (oi:=⟨some 55,.fieldAddr 24 (.tmp 54) 1,0, "table.go:50",#[⟨9,.data⟩],none⟩) (v:=(.pointer (some ⟨bt,1,none⟩))) rfl (by kernel_rfl) (fun _ _ _ h=>h) (Or.inl ⟨by rfl,?_⟩) (KB.out _ GB.out) ?_
      ·intro w hSw;(try dsimp only at hSw);go_simp
      simp only [Act.put,sIb,sC0,sC1];refine zAA (i:=11) (oi:=⟨some 56,.load 3 (.tmp 55),3, "table.go:50",#[⟨10,.data⟩],none⟩) (v:=(.int .i64 (n:Int))) rfl (by kernel_rfl) (fun _ _ _ h=>h) (Or.inl ⟨by rfl,?_⟩) (KB.out _ GB.out) ?_
      ·intro w hSw;(try dsimp only at hSw);go_simp
      simp only [Act.put,sIb,sC0,sC1];refine zAA (i:=12) (oi:=⟨some 57,.binOp .lss 3 (.tmp 51) (.tmp 56) 3,4, "table.go:50",#[⟨6,.data⟩,⟨11,.data⟩],none⟩) (v:=(.bool false)) rfl (by kernel_rfl) (fun _ _ _ h=>h) (Or.inl ⟨by rfl,?_⟩) (KB.out _ GB.out) ?_
      ·intro w hSw;(try dsimp only at hSw);go_simp
      simp only [Act.put,sIb,sC0,sC1];refine zAA (i:=13) (oi:=⟨some 58,.move (.tmp 57),4, "table.go:50",#[⟨12,.data⟩],none⟩) (v:=(.bool false)) rfl (by kernel_rfl) (fun _ _ _ h=>h) (Or.inl ⟨by rfl,?_⟩) (KB.out _ GB.out) ?_
      ·intro w hSw;(try dsimp only at hSw);go_simp
      simp only [Act.put,sIb,sC0,sC1];refine zAA (i:=14) (oi:=⟨some 59,.load 39 (.tmp 5),39, "table.go:50",#[⟨13,.guard⟩],some (13,true)⟩) (v:=undef) rfl (by kernel_rfl) (fun _ _ _ h=>h) (Or.inr ⟨by rfl,rfl⟩) (KB.out _ GB.out) ?_;simp only [Act.put,sIb,sC0,sC1];refine zAA (i:=15) (oi:=⟨some 60,.call { callee:=.value (.func 14),args:=#[.tmp 59],argTypes:=#[39] },3, "table.go:50",#[⟨14,.data⟩,⟨13,.chain⟩,⟨13,.guard⟩],some (13,true)⟩) (v:=undef) rfl (by kernel_rfl) (fun _ _ _ h=>h) (Or.inr ⟨by rfl,rfl⟩) (KB.out _ GB.out) ?_;simp only [Act.put,sIb,sC0,sC1];refine zAA (i:=16) (oi:=⟨some 61,.binOp .neq 3 (.tmp 60) (.const (.int .i64 0)) 3,4, "table.go:50",#[⟨15,.data⟩,⟨13,.guard⟩],some (13,true)⟩) (v:=undef) rfl (by kernel_rfl) (fun _ _ _ h=>h) (Or.inr ⟨by rfl,rfl⟩) (KB.out _ GB.out) ?_;simp only [Act.put,sIb,sC0,sC1];refine zCA (i:=17) (o:=⟨some 62,.pick (.tmp 58) (.tmp 61) (.const (.bool false)),4, "table.go:50",#[⟨13,.data⟩,⟨16,.data⟩],none⟩) (by kernel_rfl) rfl (fun K hK=>?_);go_simp;refine hK.out _ _ (fun h=>absurd h (by decide)) ?_;clear hK
      try simp only [Act.put]
      refine zFA (by kernel_rfl) ?_ _;have HN2:=hid (HN1.out _ GB.out);clear GB KB HN1;go_wp2_with fail;go_roundg (n-(j+1))
      case rel=>exact HN2.out
      case measure=>exact HM2.out
    ·have hlt2':¬(j:Int)<(n:Int):=by omega
     obtain rfl:j=n:=by omega
     have HN1:Hid (SeH A w bt ga gb go m j k (m-(i+1)) (.int .i64 ((i+1:Nat):Int)) wr):=⟨i+1,_,_,_,_,rk,rfl,by omega,rfl,TM.out,ST.out.skip hlt fun t ht h2=>HJZ.out t ht h2,TC.out⟩
     clear TM TC BW HG HJZ;go_wp2_with fail;go_roundg (m-(i+1))
     case rel=>exact HN1.out
     case measure=>exact HMM.out
  ·have hlt':¬(i:Int)<(m:Int):=by omega
   obtain rfl:i=m:=by omega
   have FIN:Hid (znH A w bt ga gb go i n k (.returned (.tuple #[])) wr):=⟨rfl,bs,os,F,d,rk,TM.out,ST.out,TC.out⟩
   clear TM ST TC HG;go_wp2;go_end0;exact FIN.out
end Go.Proofs.YtjnokjgbeploaaaGreat
