/-
 QCz14ToTm14: Cz14, Cg14, Zf14, Pk13, Sd13, Tm14, joined.
-/
import Derived.Test.YtjnokjgbeploaaaGreatQRn14ToIt14
import Derived.Test.YtjnokjgbeploaaaGreatQFil9ToDot9
import Derived.Test.YtjnokjgbeploaaaGreatQSr13
import Derived.Test.YtjnokjgbeploaaaGreatQEachM11ToPr12
import Derived.Test.YtjnokjgbeploaaaGreatQUnit9ToBw8
import Derived.Test.YtjnokjgbeploaaaGreatQSo13ToInts9
import Derived.Test.YtjnokjgbeploaaaGreatQPickA9ToPickB9
import Derived.Test.YtjnokjgbeploaaaGreatQLd13
import Derived.Test.YtjnokjgbeploaaaGreatQTo14ToSp14
import Derived.Test.YtjnokjgbeploaaaGreatQEl13

set_option maxRecDepth 100000
set_option maxHeartbeats 6400000
set_option linter.unusedVariables false
set_option linter.unusedSimpArgs false
namespace Go.Proofs.YtjnokjgbeploaaaGreat
open Go.RowKit
theorem zND:∀d k,cho d k+cho d (k+1)≤2 ^ d
 | 0,0=>by simp [cho]
 | 0,k+1=>by simp [cho]
 | d+1,0=>by
  have:cho d 0+cho d 1≤2 ^ d:=zND d 0
  show 1+(cho d 0+cho d 1)≤2 ^ (d+1)
  have h:=Nat.two_pow_pos d;rw [Nat.pow_succ];omega
 | d+1,k+1=>by
  have h1:=zND d k;have h2:=zND d (k+1)
  show (cho d k+cho d (k+1))+(cho d (k+1)+cho d (k+1+1))≤2 ^ (d+1)
  rw [Nat.pow_succ];omega
def wu (k:Nat) (F:Nat→Int):List Value:=(List.range k).map fun t=>.int .u64 (F t)
theorem zpE {k i:Nat} {F:Nat→Int} (hi:i<k):(wu k F)[i]?=some (.int .u64 (F i)):=by simp [wu,hi]
theorem zLD {k:Nat} {F G:Nat→Int} (h:∀t,t<k→F t=G t):wu k F=wu k G:=List.map_congr_left fun t ht=>by rw [h t (by simpa using ht)]
theorem zDI {k i:Nat} {F:Nat→Int} (hi:i<k) (z:Int):(wu k F).set i (.int .u64 z)=wu k (upF F i z):=by
 apply List.ext_getElem?
 intro t
 by_cases q:t<k
 ·by_cases e:t=i
  ·subst e
   rw [List.getElem?_set_self (by simpa [wu] using hi),zpE q];simp [upF]
  ·rw [List.getElem?_set_ne (by omega),zpE q,zpE q];simp [upF,e]
 ·rw [List.getElem?_eq_none (by simp [wu];omega),List.getElem?_eq_none (by simp [wu];omega)]
theorem madeCells_uf (m:Nat):madeCells (Value.int .u64 0).cells m=(wu m fun _=>0).toArray:=by
 apply Array.ext
 ·simp [size_madeCells,wu]
 ·intro i h1 h2
  simp [madeCells,wu,Value.cells,Nat.mod_one]
theorem Tryz.infoU14:(Tryz.prog.info? 58).map (fun i=>(i.zero,i.size,i.bytes))=some (some (.int .u64 0),1,8):=by kernel_rfl
theorem wpList_make_uf (w:World) {ops:Array Oper} {rest:List Oper} {o:Oper} {a:Act} {Q:Exit→Act→World→Prop}
  (hg:o.guard=none) (l c:Operand) (hop:o.op=Op.makeSlice 37 l c)
  (L C:Int) (n m:Nat) (hl:a.eval l=.int .i64 L) (hc:a.eval c=.int .i64 C) (hL:L=(n:Int)) (hC:C=(m:Int)) (hnm:n≤m) (hm:m≤2000000)
  (hK:∀w',Hid (Cel w' w.heap.size 58 (wu m fun _=>0))→Hid (Below w.heap.size w w')→Hid (w'.heap.size=w.heap.size+1)→wpList Tryz.prog ops Q rest (a.put o.dst (.slice (some ⟨w.heap.size,0,none⟩) n m)) w') :
  wpList Tryz.prog ops Q (o :: rest) a w:=by
 refine wpList_plain hg fun K hK'=>?_
 obtain ⟨i,hi,hz,hs,hb⟩:=info_parts Tryz.infoU14;have hrun:=run_make (P:=Tryz.prog) w 37 58 i (.int .u64 0) Tryz.underlying37 hi hz .i64 .i64 n m (by omega) (by omega) (by rw [hb];omega) (by omega);subst hL;subst hC;rw [hs,Nat.mul_one,Int.toNat_natCast,Int.toNat_natCast,madeCells_uf] at hrun;unfold Oper.wp;simp [execOp,hop,hl,hc,hrun,Result.andThen];refine hK' _ _ (hK _ ?_ ((Below.refl _ _).alloc (Nat.le_refl _) _) ?_)
 ·unfold Hid Cel;exact heap_alloc_new w _
 ·unfold Hid;simp
def chF (t i j:Nat):Int:=if i<j then (cho (t+1) j:Nat) else (cho t j:Nat)
def CoH (w:World) (g n k gk:Nat) (s:Value) (wx:World):Prop:=∃t:Nat,s=.int .i64 (t:Int)∧t≤n∧gk=n-t∧Cel wx g 58 (wu (k+1) fun j=>(cho t j:Nat))∧Below w.heap.size w wx
def CiH (w:World) (g t k gk:Nat) (s:Value) (wx:World):Prop:=∃i:Nat,s=.int .i64 (i:Int)∧i≤k∧gk=i∧Cel wx g 58 (wu (k+1) (chF t i))∧Below w.heap.size w wx
theorem chF_put {t i j:Nat}:upF (chF t (i+1)) (i+1) ((cho t (i+1)+cho t i:Nat):Int) j=chF t i j:=by
 unfold upF chF
 by_cases e:j=i+1
 ·subst e
  rw [if_pos rfl,if_pos (by omega)]
  show _=((cho t i+cho t (i+1):Nat):Int)
  rw [Nat.add_comm]
 ·rw [if_neg e]
  by_cases q:i+1<j
  ·rw [if_pos q,if_pos (by omega)]
  ·rw [if_neg q,if_neg (by omega)]
theorem zdG:∀d,cho d 0=1
 | 0=>rfl
 | _+1=>rfl
theorem chF_end {t j:Nat}:chF t 0 j=(cho (t+1) j:Nat):=by
 unfold chF
 by_cases q:0<j
 ·rw [if_pos q]
 ·have:j=0:=by omega
  subst this;rw [if_neg q,zdG,zdG]
theorem zaB {w:World} {n k:Nat} (hn:n≤64) (hk:k≤n):Calls Tryz.prog 31 #[.int .i64 (n:Int),.int .i64 (k:Int)] w fun e w'=>e=.returned (.int .u64 (cho n k:Nat))∧Below w.heap.size w w':=by
 have q1:¬(k:Int)<0:=by omega
 have q2:¬(n:Int)<(k:Int):=by omega
 have q1d:decide ((k:Int)<0)=false:=decide_eq_false q1;have q2d:decide ((n:Int)<(k:Int))=false:=decide_eq_false q2;have hw:=zNA (i:=k) (by omega);go_enter Tryz.func31,Tryz.ntmps31;go_wp2_with (at_make;refine wpList_make_uf _ rfl _ _ rfl _ _ (k+1) (k+1) rfl rfl rfl rfl (Nat.le_refl _) (by omega) ?_)
 intro w1 hrow hb1 hsz1;obtain ⟨g,hgg⟩:∃g,w.heap.size=g:=⟨_,rfl⟩
 have EGG:=hid hgg;rw [hgg] at hrow;have e0:=hrow.out.at (zpE (i:=0) (by omega));have e1:=hrow.out.fz 0;have h0k:(0:Int)<(k:Int)+1:=by omega
 have H0:Hid (CoH w g n k n (.int .i64 0) (w1.setCell ⟨g,0,none⟩ (.int .u64 1))):=by
  refine ⟨0,rfl,Nat.zero_le _,rfl,?_,bset hb1.out (by omega)⟩;have:=hrow.out.set 0 (.int .u64 1);rw [zDI (by omega),zLD (G:=fun j=>(cho 0 j:Nat)) fun j hj=>?_] at this
  ·exact this
  ·match j with
   | 0=>rfl
   | j+1=>simp [upF,cho]
 rw [hgg];clear hrow hb1 hsz1 q1 q2 q1d q2d hgg;go_wp2_with fail;clear e0 e1
 go_loopg [20] n (fun gk s20 wx=>CoH w g n k gk s20 wx)
 case atStart=>exact H0.out
 case round =>
  clear H0;obtain ⟨t,rfl,htn,hgk,hc,hb⟩:=hrel;have CC:=hid hc;have BB:=hid hb;have HG:=hid hgk;clear hc hb hgk
  by_cases hlt:t<n
  ·have hlt':(t:Int)<(n:Int):=by omega
   have hwt:=zNA (i:=t) (by omega);have HMM:Hid (n-(t+1)<gk):=by unfold Hid;rw [HG.out];omega
   have H1:Hid (CiH w g t k k (.int .i64 (k:Int)) wr):=⟨k,rfl,Nat.le_refl _,rfl,by
    have:=CC.out;rw [zLD (G:=chF t k) fun j hj=>by unfold chF;rw [if_neg (by omega)]] at this;exact this,BB.out⟩
   clear HG CC BB;go_wp2_with fail
   go_loopg [6] k (fun gk s6 wx=>CiH w g t k gk s6 wx)
   case atStart=>exact H1.out
   case round =>
    clear H1;obtain ⟨i,rfl,hik,hgk,hc,hb⟩:=hrel;have CC:=hid hc;have BB:=hid hb;have HG:=hid hgk;clear hc hb hgk
    by_cases hi:0<i
    ·obtain ⟨i,rfl⟩:∃j,i=j+1:=⟨i-1,by omega⟩
     have hi':(0:Int)<((i+1:Nat):Int):=by omega
     have hws:IntKind.i64.wrap (((i+1:Nat):Int)-1)=(i:Int):=by rw [zaA] <;> omega
     have hws2:IntKind.i64.wrap ((i:Int)+1-1)=(i:Int):=by rw [zaA] <;> omega
     have c0:=CC.out.at (zpE (i:=i+1) (by omega));have c1:=CC.out.at (zpE (i:=i) (by omega));have c2:=CC.out.fz (i+1);have b1:cho t i+cho t (i+1)≤9223372036854775808:=by
      have h1:=zND t i;have h2:2 ^ t≤2 ^ 63:=Nat.pow_le_pow_right (by omega) (by omega);omega
     have E0:chF t (i+1) (i+1)=((cho t (i+1):Nat):Int):=if_neg (by omega);have E1:chF t (i+1) i=((cho t i:Nat):Int):=if_neg (by omega);rw [E0] at c0;rw [E1] at c1;have HN1:Hid (∀wx,Below wr.heap.size wr wx→CiH w g t k i (.int .i64 (i:Int)) (wx.setCell ⟨g,i+1,none⟩ (.int .u64 ((cho t (i+1)+cho t i:Nat):Int)))):=fun wx hb=>⟨i,rfl,by omega,rfl,by
      have:=(CC.out.step hb).set (i+1) (.int .u64 ((cho t (i+1)+cho t i:Nat):Int));rw [zDI (by omega),zLD fun j _=>chF_put] at this;exact this,bset (zBA BB.out hb) (by have:=EGG.out;omega)⟩
     have HM2:Hid (i<gk):=by unfold Hid;rw [HG.out];omega
     have CX:=hid CC.out;obtain ⟨ca,hca⟩:∃ca,cho t (i+1)=ca:=⟨_,rfl⟩
     obtain ⟨cb,hcb⟩:∃cb,cho t i=cb:=⟨_,rfl⟩
     rw [hca] at c0 b1 HN1;rw [hcb] at c1 b1 HN1;have hwu:IntKind.u64.wrap ((ca:Int)+(cb:Int))=((ca+cb:Nat):Int):=by rw [IntKind.wrap_u64];omega
     obtain ⟨i1,hi1⟩:∃i1,i+1=i1:=⟨_,rfl⟩
     obtain ⟨cs,hcs⟩:∃cs,ca+cb=cs:=⟨_,rfl⟩
     rw [hcs] at hwu HN1;rw [hi1] at hws c0 c2 HN1 hi' ⊢;have hik1:(i1:Int)<(k:Int)+1:=by omega
     have hik0:(i:Int)<(k:Int)+1:=by omega
     clear HG CC BB hca hcb E0 E1 b1 hcs hws2;go_wp2_with fail;have KB:Hid (∀w',Below wr.heap.size wr w'→w'.cell? ⟨g,i1,none⟩=some (.int .u64 (ca:Int))∧w'.cell? ⟨g,i,none⟩=some (.int .u64 (cb:Int))):=fun w' h=>⟨cnow h c0,cnow h c1⟩
     refine zDA (fun w'=>w'.cell? ⟨g,i1,none⟩=some (.int .u64 (ca:Int))∧w'.cell? ⟨g,i,none⟩=some (.int .u64 (cb:Int))) 11 (by kernel_rfl) ?_;obtain ⟨D1,hD⟩:∃D1,wr.drew=D1:=⟨_,rfl⟩
     have GB:Hid (Below wr.heap.size wr D1):=by unfold Hid;rw [←hD];exact (Below.refl _ _).drew
     rw [hD];clear hD;refine zAA (i:=0) (oi:=⟨some 27,.move (.tmp 5),37, "sets.go:62",#[],none⟩) (v:=(.slice (some ⟨g,0,none⟩) (k+1) (k+1))) rfl (by kernel_rfl) (fun _ _ _ h=>h) (Or.inl ⟨by rfl,?_⟩) (KB.out _ GB.out) ?_
     ·intro w hSw;(try dsimp only at hSw);go_simp
     simp only [Act.put,sIb,sC0,sC1];refine zAA (i:=1) (oi:=⟨some 28,.move (.tmp 6),3, "sets.go:62",#[],none⟩) (v:=(.int .i64 (i1:Int))) rfl (by kernel_rfl) (fun _ _ _ h=>h) (Or.inl ⟨by rfl,?_⟩) (KB.out _ GB.out) ?_
     ·intro w hSw;(try dsimp only at hSw);go_simp
     simp only [Act.put,sIb,sC0,sC1];refine zAA (i:=2) (oi:=⟨some 29,.indexAddr 37 (.tmp 27) (.tmp 28),0, "sets.go:62",#[⟨0,.data⟩,⟨1,.data⟩],none⟩) (v:=(.pointer (some ⟨g,i1,none⟩))) rfl (by kernel_rfl) (fun _ _ _ h=>h) (Or.inl ⟨by rfl,?_⟩) (KB.out _ GB.out) ?_
     ·intro w hSw;(try dsimp only at hSw);go_simp
     simp only [Act.put,sIb,sC0,sC1];refine zAA (i:=3) (oi:=⟨some 30,.load 58 (.tmp 29),58, "sets.go:62",#[⟨2,.data⟩],none⟩) (v:=(.int .u64 (ca:Int))) rfl (by kernel_rfl) (fun _ _ _ h=>h) (Or.inl ⟨by rfl,?_⟩) (KB.out _ GB.out) ?_
     ·intro w hSw;(try dsimp only at hSw);go_simp
     simp only [Act.put,sIb,sC0,sC1];refine zAA (i:=4) (oi:=⟨some 31,.move (.tmp 5),37, "sets.go:62",#[],none⟩) (v:=(.slice (some ⟨g,0,none⟩) (k+1) (k+1))) rfl (by kernel_rfl) (fun _ _ _ h=>h) (Or.inl ⟨by rfl,?_⟩) (KB.out _ GB.out) ?_
     ·intro w hSw;(try dsimp only at hSw);go_simp
     simp only [Act.put,sIb,sC0,sC1];refine zAA (i:=5) (oi:=⟨some 32,.move (.tmp 6),3, "sets.go:62",#[],none⟩) (v:=(.int .i64 (i1:Int))) rfl (by kernel_rfl) (fun _ _ _ h=>h) (Or.inl ⟨by rfl,?_⟩) (KB.out _ GB.out) ?_
     ·intro w hSw;(try dsimp only at hSw);go_simp
     simp only [Act.put,sIb,sC0,sC1];refine zAA (i:=6) (oi:=⟨some 33,.binOp .sub 3 (.tmp 32) (.const (.int .i64 1)) 3,3, "sets.go:62",#[⟨5,.data⟩],none⟩) (v:=(.int .i64 (i:Int))) rfl (by kernel_rfl) (fun _ _ _ h=>h) (Or.inl ⟨by rfl,?_⟩) (KB.out _ GB.out) ?_
     ·intro w hSw;(try dsimp only at hSw);go_simp
     simp only [Act.put,sIb,sC0,sC1];refine zAA (i:=7) (oi:=⟨some 34,.indexAddr 37 (.tmp 31) (.tmp 33),0, "sets.go:62",#[⟨4,.data⟩,⟨6,.data⟩],none⟩) (v:=(.pointer (some ⟨g,i,none⟩))) rfl (by kernel_rfl) (fun _ _ _ h=>h) (Or.inl ⟨by rfl,?_⟩) (KB.out _ GB.out) ?_
     ·intro w hSw;(try dsimp only at hSw);go_simp
     simp only [Act.put,sIb,sC0,sC1];refine zAA (i:=8) (oi:=⟨some 35,.load 58 (.tmp 34),58, "sets.go:62",#[⟨7,.data⟩],none⟩) (v:=(.int .u64 (cb:Int))) rfl (by kernel_rfl) (fun _ _ _ h=>h) (Or.inl ⟨by rfl,?_⟩) (KB.out _ GB.out) ?_
     ·intro w hSw;(try dsimp only at hSw);go_simp
     simp only [Act.put,sIb,sC0,sC1];refine zAA (i:=9) (oi:=⟨some 36,.binOp .add 58 (.tmp 30) (.tmp 35) 58,58, "sets.go:62",#[⟨3,.data⟩,⟨8,.data⟩],none⟩) (v:=(.int .u64 (cs:Int))) rfl (by kernel_rfl) (fun _ _ _ h=>h) (Or.inl ⟨by rfl,?_⟩) (KB.out _ GB.out) ?_
     ·intro w hSw;(try dsimp only at hSw);go_simp
     simp only [Act.put,sIb,sC0,sC1];refine zAA (i:=10) (oi:=⟨some 37,.indexAddr 37 (.tmp 27) (.tmp 28),0, "sets.go:62",#[⟨0,.data⟩,⟨1,.data⟩,⟨0,.phase⟩,⟨1,.phase⟩,⟨2,.phase⟩,⟨3,.phase⟩,⟨4,.phase⟩,⟨5,.phase⟩,⟨6,.phase⟩,⟨7,.phase⟩,⟨8,.phase⟩,⟨9,.phase⟩],none⟩) (v:=(.pointer (some ⟨g,i1,none⟩))) rfl (by kernel_rfl) (fun _ _ _ h=>h) (Or.inl ⟨by rfl,?_⟩) (KB.out _ GB.out) ?_
     ·intro w hSw;(try dsimp only at hSw);go_simp
     simp only [Act.put,sIb,sC0,sC1];refine zCA (i:=11) (o:=⟨none,.store 58 (.tmp 37) (.tmp 36),0, "sets.go:62",#[⟨10,.data⟩,⟨9,.data⟩,⟨0,.phase⟩,⟨1,.phase⟩,⟨2,.phase⟩,⟨3,.phase⟩,⟨4,.phase⟩,⟨5,.phase⟩,⟨6,.phase⟩,⟨7,.phase⟩,⟨8,.phase⟩,⟨9,.phase⟩],none⟩) (by kernel_rfl) rfl (fun K hK=>?_);have h0:=(CX.out.step GB.out).at (zpE (i:=i1) (by omega));have h1:=(CX.out.step GB.out).fz i1;go_simp;clear h0 h1;obtain ⟨V2,hW⟩:∃V2,(D1.setCell ⟨g,i1,none⟩ (.int .u64 (cs:Int)))=V2:=⟨_,rfl⟩
     have HN2:Hid (CiH w g t k i (.int .i64 (i:Int)) V2):=by unfold Hid;rw [←hW];exact HN1.out _ GB.out
     rw [hW];clear hW;refine hK.out _ _ (fun h=>absurd h (by decide)) ?_;clear hK
     try simp only [Act.put]
     refine zFA (by kernel_rfl) ?_ _;clear GB KB HN1 c0 c1 c2 CX;go_wp2_with fail;go_roundg i
     case rel=>exact HN2.out
     case measure=>exact HM2.out
    ·have hi':¬(0:Int)<(i:Int):=by omega
     obtain rfl:i=0:=by omega
     have HN1:Hid (CoH w g n k (n-(t+1)) (.int .i64 ((t+1:Nat):Int)) wr):=⟨t+1,rfl,by omega,rfl,by
      have:=CC.out;rw [zLD fun j _=>chF_end] at this;exact this,BB.out⟩
     clear HG CC BB;go_wp2_with fail;go_roundg (n-(t+1))
     case rel=>exact HN1.out
     case measure=>exact HMM.out
  ·have hlt':¬(t:Int)<(n:Int):=by omega
   obtain rfl:t=n:=by omega
   have c0:=CC.out.at (zpE (i:=k) (by omega));have hkk:(k:Int)<(k:Int)+1:=by omega
   clear HG CC;go_wp2;go_ret;exact ⟨rfl,BB.out⟩
def zcI (w:World) (n k:Nat) (e:Ending) (w':World):Prop:=∃bn bk,e=.returned (.func (.func 70) #[] #[.pointer (some ⟨bn,0,none⟩),.pointer (some ⟨bk,0,none⟩)])∧Cel w' bn 3 [.int .i64 (n:Int)]∧Cel w' bk 3 [.int .i64 (k:Int)]∧w.heap.size≤bn∧w.heap.size≤bk∧Below w.heap.size w w'
theorem zDG {w:World} {n k:Nat}:Calls Tryz.prog 57 #[.int .i64 (n:Int),.int .i64 (k:Int)] w (zcI w n k):=by
 have b0:=(zjA w (.cells #[.int .i64 (n:Int)] 3) (.cells #[.int .i64 (k:Int)] 3)).1;have FIN:Hid (zcI w n k (.returned (.func (.func 70) #[] #[.pointer (some ⟨w.heap.size,0,none⟩),.pointer (some ⟨w.heap.size+1,0,none⟩)])) ((w.alloc (.cells #[.int .i64 (n:Int)] 3)).alloc (.cells #[.int .i64 (k:Int)] 3))):=by
  refine ⟨_,_,rfl,(Cel.new w 3 [.int .i64 (n:Int)]).step ((Below.refl _ _).alloc (Nat.le_refl _) _),?_,Nat.le_refl _,by omega,b0⟩;have:=Cel.new (w.alloc (.cells #[.int .i64 (n:Int)] 3)) 3 [.int .i64 (k:Int)]
  simpa using this
 clear b0;go_enter Tryz.func57,Tryz.ntmps57;go_wp2;go_ret;exact FIN.out
open Go.RowKit Go.Shelf
theorem zLA.tyg {T:TypeId} {g:Nat} {A B:World} {L:Array Value} {fr:Nat×Nat} (h:zLA (· = g) A B) (hg:A.heap[g]?=some (.cells L T fr)):Ty T A B:=⟨h.size,fun b L' T' fr' e hne=>by
 refine (h.block b (Array.getElem?_eq_some_iff.1 e).1 (fun q=>?_)).trans e;subst q;rw [hg,Option.some.injEq,Obj.cells.injEq] at e;exact hne e.2.1.symm⟩
theorem Ivs.kc14 {B:Nat} {w w':World} {v:Value} {l:List Nat} (h:Ivs B w v l) (hk:Kc w w'):Ivs B w' v l:=h.keep fun b L _ e=>hk.2 b _ e rfl
theorem Ty.kc14 {T:TypeId} {a w w':World} (h:Ty T a w) (hk:Kc w w'):Ty T a w':=⟨Nat.le_trans h.1 hk.1,fun b L T' fr e hne=>hk.2 b _ (h.2 b L T' fr e hne) rfl⟩
theorem KpL.kc14 {S:Nat→Prop} {B:Nat} {X Y Z:World} (h:KpL S B X Y) (hk:Kc Y Z):KpL S B X Z:=⟨Nat.le_trans h.1 hk.1,fun b o h1 h2 e q=>hk.2 b o (h.2 b o h1 h2 e q) q⟩
end Go.Proofs.YtjnokjgbeploaaaGreat
namespace Go.Proofs.YtjnokjgbeploaaaGreat
def zF (m n:Nat) (F:Nat→Nat→Int):List Int:=(List.range (m*n)).map fun t=>F (t / n) (t % n)
theorem zVB (m n:Nat) (F:Nat→Nat→Int):(zF m n F).length=m*n:=by simp [zF]
theorem ziG {m n i j:Nat} (hi:i<m) (hj:j<n):i*n+j<m*n:=by
 have h:=Nat.mul_le_mul_right n (show i+1≤m from hi);rw [Nat.succ_mul] at h;omega
theorem zhI {n i j:Nat} (hj:j<n):(i*n+j) / n=i∧(i*n+j) % n=j:=by
 have hn:0<n:=by omega
 rw [Nat.mul_comm i n,Nat.mul_add_div hn,Nat.mul_add_mod,Nat.div_eq_of_lt hj,Nat.mod_eq_of_lt hj];exact ⟨by omega,rfl⟩
theorem ziI {m n i j:Nat} {F:Nat→Nat→Int} (hi:i<m) (hj:j<n):(zF m n F).getD (i*n+j) 0=F i j:=by
 have h:=ziG hi hj;have e:=zhI (i:=i) hj;simp [zF,h,e.1,e.2]
theorem zwB {m n:Nat} {F G:Nat→Nat→Int} (h:∀i j,i<m→j<n→F i j=G i j):zF m n F=zF m n G:=List.map_congr_left fun t ht=>by
 have ht':t<m*n:=by simpa using ht
 have hn:0<n:=Nat.pos_of_ne_zero fun e=>by subst e;simp at ht'
 exact h _ _ (Nat.div_lt_of_lt_mul (by rw [Nat.mul_comm];exact ht')) (Nat.mod_lt _ hn)
def up2 (F:Nat→Nat→Int) (i j:Nat) (z:Int):Nat→Nat→Int:=fun r c=>if r=i∧c=j then z else F r c
theorem zF_set {m n i j:Nat} {F:Nat→Nat→Int} (hi:i<m) (hj:j<n) (z:Int):(zF m n F).set (i*n+j) z=zF m n (up2 F i j z):=by
 have h:=ziG hi hj;have e:=zhI (i:=i) hj
 apply List.ext_getElem?
 intro t
 by_cases q:t<m*n
 ·by_cases c:t=i*n+j
  ·subst c
   rw [List.getElem?_set_self (by rw [zVB];exact q)];simp [zF,q,up2,e.1,e.2]
  ·rw [List.getElem?_set_ne (by omega)]
   have:¬(t / n=i∧t % n=j):=fun ⟨a,b⟩=>c (by rw [←a,←b,Nat.mul_comm];exact (Nat.div_add_mod t n).symm)
   simp [zF,q,up2,this]
 ·rw [List.getElem?_eq_none (by simp [zVB];omega),List.getElem?_eq_none (by simp [zVB];omega)]
theorem zuI {m n:Nat} {zs:List Int} (h:zs.length=m*n):zF m n (en n zs)=zs:=by
 refine List.ext_getElem (by rw [zVB,h]) fun t h1 h2=>?_
 have ht:t<m*n:=by rw [zVB] at h1;exact h1
 simp only [zF,List.getElem_map,List.getElem_range,en];rw [Nat.mul_comm (t / n) n,Nat.div_add_mod];simp [h2]
theorem en_zF {m n i j:Nat} {F:Nat→Nat→Int} (hi:i<m) (hj:j<n):en n (zF m n F) i j=F i j:=ziI hi hj
open Go.RowKit
theorem row_getD13 {r c i j:Nat} {xs:List Int} (hi:i<r) (hj:j<c):((rowsL r c xs).getD i []).getD j 0=xs.getD (i*c+j) 0:=by
 have e:(rowsL r c xs).getD i []=(xs.drop (i*c)).take c:=by simp [rowsL,hi]
 rw [e,List.getD_eq_getElem?_getD,List.getD_eq_getElem?_getD,List.getElem?_take,if_pos hj,List.getElem?_drop]
theorem pick_en {r c a b:Nat} {zs:List Int} {is js:List Nat} (hi:∀i∈is,i<r) (hj:∀j∈js,j<c) (ha:a<is.length) (hb:b<js.length):en js.length (zjG r c zs is js) a b=en c zs (is.getD a 0) (js.getD b 0):=by
 unfold en zjG;rw [zcC hb (by intro x hx;unfold pickR at hx;simp only [List.mem_map] at hx;obtain ⟨row,_,rfl⟩:=hx;simp) (by simp [pickR,ha])];have e:(pickR (rowsL r c zs) is js).getD a []=js.map (ent9 (rowsL r c zs) is[a]):=by simp [pickR,ha]
 rw [e];have e2:(js.map (ent9 (rowsL r c zs) is[a])).getD b 0=ent9 (rowsL r c zs) is[a] js[b]:=by simp [hb]
 rw [e2];have e3:is.getD a 0=is[a]:=by simp [ha]
 have e4:js.getD b 0=js[b]:=by simp [hb]
 rw [e3,e4];exact row_getD13 (hi _ (List.getElem_mem ha)) (hj _ (List.getElem_mem hb))
theorem pick_det {r c k:Nat} {zs:List Int} {is js:List Nat} (hi:∀i∈is,i<r) (hj:∀j∈js,j<c) (h1:is.length=k) (h2:js.length=k):det k (en k (zjG r c zs is js))=det k fun a b=>en c zs (is.getD a 0) (js.getD b 0):=by
 refine zEA fun a b ha hb=>?_
 have:=pick_en (zs:=zs) hi hj (show a<is.length by omega) (show b<js.length by omega);rw [h2] at this;exact this
theorem OwnP.at13 {B g cap l t k:Nat} {w:World} {ps:List (Value×Value)} {zs:List Int} (h:OwnP B w (.slice (some ⟨g,0,none⟩) l cap) ps) (hz:Zms w ps zs k) (ht:t<zs.length) :
  ∃nv av lw cv,w.cell? ⟨g,t*2,none⟩=some (.bool nv)∧w.cell? ⟨g,t*2+1,none⟩=some (.slice av lw cv)∧Zm 0 w (.agg #[.bool nv,.slice av lw cv]) (zs.getD t 0) k:=by
 have hp:ps[t]?=some (ps[t]'(by rw [hz.1];exact ht)):=List.getElem?_eq_getElem _;have hz':zs[t]?=some (zs.getD t 0):=by simp [ht]
 have z:=hz.2 t _ _ hp hz';have f:=zPB hp;have c0:=World.ownsRow.cells h (g:=g) rfl _ _ f.1;have c1:=World.ownsRow.cells h (g:=g) rfl _ _ f.2;rw [zDC] at c0 c1;obtain ⟨n0,xs,a0,c0',e,_⟩:=z;have e1:(ps[t]'(by rw [hz.1];exact ht)).1=.bool n0:=by simp only [Value.agg.injEq] at e;simp at e;exact e.1
 have e2:(ps[t]'(by rw [hz.1];exact ht)).2=.slice a0 xs.length c0':=by simp only [Value.agg.injEq] at e;simp at e;exact e.2
 have z:=hz.2 t _ _ hp hz';rw [e1] at c0 z;rw [e2] at c1 z;exact ⟨n0,a0,xs.length,c0',c0,c1,z⟩
theorem zQH {A:Nat→Nat→Int} {n t:Nat} (ht:t≤n):(ldL A n).getD t 0=det t A:=by
 simp [ldL,show t<n+1 by omega]
theorem OwnP.form13 {B n k:Nat} {w:World} {lv:Value} {ps:List (Value×Value)} {A:Nat→Nat→Int} (h:OwnP B w lv ps) (hz:Zms w ps (ldL A n) k):∃g l cap,lv=.slice (some ⟨g,0,none⟩) l cap∧l=n+1∧l≤cap:=by
 have hl:ps.length=n+1:=by rw [hz.1];simp [ldL]
 obtain ⟨_,⟨q1,q2⟩ | ⟨g,cap,cur,q1,q2,q3,q4,_⟩⟩:=h
 ·omega
 ·exact ⟨g,_,cap,q1,hl,q4⟩
theorem snd13 {r c:Int} {l:Nat} (h:Snd r c l):∃a b:Nat,r=(a:Int)∧c=(b:Int):=by
 obtain ⟨h1,h2,h3,h4,h5⟩:=h;exact ⟨r.toNat,c.toNat,by omega,by omega⟩
theorem Raw.mx13 {w:World} {v:Value} {r c:Nat} {l:Nat} {zs:List Int} (h:Raw w v (r:Int) (c:Int) l zs) (hs:Snd (r:Int) (c:Int) l):Mx w v r c zs 1048576∧l=r*c:=⟨h.mx hs,by have:=hs.2.2.2.2;exact Int.ofNat.inj this⟩
def Tru (w:World) (e:Ending) (w':World):Prop:=e=.returned (.bool true)∧Below w.heap.size w w'
def AZ (w:World) (g:Nat) (zs:List Int) (k:Nat):Prop:=∃ps,Arr w g ps∧Zms w ps zs k
theorem AZ.step {w w':World} {g:Nat} {zs:List Int} {k:Nat} (h:AZ w g zs k) (hb:Below w.heap.size w w'):AZ w' g zs k:=by
 obtain ⟨ps,h1,h2⟩:=h;exact ⟨ps,h1.step hb,h2.now hb⟩
theorem AZ.blk {w:World} {g:Nat} {zs:List Int} {k:Nat} (h:AZ w g zs k):g<w.heap.size:=by
 obtain ⟨ps,h1,h2⟩:=h;exact h1.1.blk
theorem AZ.ty {T:TypeId} {w w':World} {g:Nat} {zs:List Int} {k:Nat} (h:AZ w g zs k) (ht:Ty T w w') (h1:39≠T) (h2:58≠T):AZ w' g zs k:=by
 obtain ⟨ps,a1,a2⟩:=h;exact ⟨ps,⟨a1.1.ty13 ht h1,a1.2⟩,a2.ty ht h2⟩
theorem AZ.at {w:World} {g m n i j:Nat} {F:Nat→Nat→Int} {k:Nat} (h:AZ w g (zF m n F) k) (hi:i<m) (hj:j<n) :
  ∃b a l c,w.cell? ⟨g,(i*n+j)*2,none⟩=some (.bool b)∧w.cell? ⟨g,(i*n+j)*2+1,none⟩=some (.slice a l c)∧w.frozen? ⟨g,(i*n+j)*2,none⟩=false∧w.frozen? ⟨g,(i*n+j)*2+1,none⟩=false∧Zm 0 w (.agg #[.bool b,.slice a l c]) (F i j) k:=by
 obtain ⟨ps,h1,h2⟩:=h;obtain ⟨b,a,l,c,e0,e1,e2,e3,z⟩:=h2.at h1 (t:=i*n+j) (by rw [zVB];exact ziG hi hj);rw [ziI hi hj] at z;exact ⟨b,a,l,c,e0,e1,e2,e3,z⟩
theorem AZ.put {w:World} {g m n i j:Nat} {F:Nat→Nat→Int} {k:Nat} (h:AZ w g (zF m n F) k) (hi:i<m) (hj:j<n) {x y:Value} {z:Int} (hz:Zm 0 w (.agg #[x,y]) z k):AZ ((w.setCell ⟨g,(i*n+j)*2,none⟩ x).setCell ⟨g,(i*n+j)*2+1,none⟩ y) g (zF m n (up2 F i j z)) k:=by
 obtain ⟨ps,h1,h2⟩:=h;obtain ⟨u1,u2,-⟩:=h2.put h1 (t:=i*n+j) (by rw [zVB];exact ziG hi hj) hz;rw [zF_set hi hj] at u2;exact ⟨_,u1,u2⟩
theorem AZ.touch {w w':World} {g:Nat} {zs:List Int} {k:Nat} (h:AZ w g zs k) (ht:zLA (· = g) w w'):Ty 39 w w':=by
 obtain ⟨ps,h1,h2⟩:=h;exact ht.ty13 h1
abbrev tbL (m n rk:Nat) (va vb vo x y:Value):List Value:=[.int .i64 (m:Int),.int .i64 (n:Int),va,vb,vo,x,y,.int .i64 (rk:Int)]
abbrev nf14 (l:List Nat):Nat→Int:=fun t=>(l.getD t 0:Nat)
structure TabM (w:World) (bt ga gb go m n:Nat) (bs os:List Nat) (F:Nat→Nat→Int) (d:Int) (rk k:Nat):Prop where
 box:∃ab cb nd ad ld cd,Cel w bt 103 (tbL m n rk (.slice (some ⟨ga,0,none⟩) (m*n) (m*n)) (.slice ab m cb) (.slice (some ⟨go,0,none⟩) n n) (.bool nd) (.slice ad ld cd))∧Zm 0 w (.agg #[.bool nd,.slice ad ld cd]) d k∧m≤cb∧(0<m→ab=some ⟨gb,0,none⟩∧∃r,Cel w gb 3 (wf m (nf14 bs) ++ r))
 arr:AZ w ga (zF m n F) k
 oth:Cel w go 3 (wf n (nf14 os))
 ne:gb≠go
 lb:bs.length=m
 lo:os.length=n
 hm:m≤64
 hn:n≤64
 rk64:rk≤64
theorem zoG {k i:Nat} {F:Nat→Int} {r:List Value} (hi:i<k):(wf k F ++ r)[i]?=some (.int .i64 (F i)):=by rw [List.getElem?_append_left (by simpa [wf] using hi),zpG hi]
theorem wfr_set {k i:Nat} {F:Nat→Int} {r:List Value} (hi:i<k) (z:Int):(wf k F ++ r).set i (.int .i64 z)=wf k (upF F i z) ++ r:=by rw [List.set_append_left _ _ (by simpa [wf] using hi),zEI hi]
end Go.Proofs.YtjnokjgbeploaaaGreat
