/-
 QUnit9ToBw8: Unit9, Add9, Law9, Wake9, OpenM9, Pure9, St11, Ty9, Sh11, TailA, Do11, Neg11, Add11, ZFloor, ZEuclid, ZMod, ZDivs, Less6, ZMet, MWord, GcdAll, ExtPure, Gcd6, Ext6, Lm6, CrtPure, Crt6, CrtLPure, Fit8, Chain8, IsChain8, Bw8, joined.
-/
import Derived.Test.YtjnokjgbeploaaaGreatQProd9ToMul9
import Derived.Test.YtjnokjgbeploaaaGreatQAlikeToShift
import Derived.Test.YtjnokjgbeploaaaGreatQRows9ToCat9
import Derived.Laws.OwnMore
import Derived.Test.YtjnokjgbeploaaaGreatQFil9ToDot9
import Derived.Test.YtjnokjgbeploaaaGreatQZOnesToZCmp
import Derived.Test.YtjnokjgbeploaaaGreatQZAdd
import Derived.Test.YtjnokjgbeploaaaGreatQExact0ToZlaw0
import Derived.Deep.Cut
import Derived.Test.YtjnokjgbeploaaaGreatQMulAllToOnes
import Derived.Test.YtjnokjgbeploaaaGreatQDivMod
import Derived.Test.YtjnokjgbeploaaaGreatQMadeToByWord
import Derived.Deep.RegionHeld3
import Derived.Deep.LoopGhost
import Derived.RangeFuncNested
import Derived.RangeFuncBound
import Derived.RangeFuncCalls
import Derived.RangeFuncLeaves
import Derived.RangeFuncBox
import Derived.Shelf.Abstract
import Derived.Shelf.RegionOpen
import Derived.WalkKit
import Derived.OwnWalkIn
import Derived.TacticsInMore
import Derived.LoopNIn
import Derived.LoopIn

set_option maxRecDepth 100000
set_option maxHeartbeats 6400000
set_option linter.unusedVariables false
set_option linter.unusedSimpArgs false
namespace Go.Proofs.YtjnokjgbeploaaaGreat
open Go.RowKit
theorem Arr.ne {w:World} {g b i:Nat} {u:Value} {ps:List (Value×Value)} (h:Arr w g ps) (hne:b≠g):Arr (w.setCell ⟨b,i,none⟩ u) g ps:=⟨h.1.ne hne,h.2⟩
theorem Arr.put3 {w:World} {g b:Nat} {ps:List (Value×Value)} (h:Arr w g ps) (hne:b≠g) (y0 y1 y2:Value):Arr (put3 w b y0 y1 y2) g ps:=((h.ne hne).ne hne).ne hne
theorem Mx.zl {w:World} {r c:Nat} {at_:Value} {zs:List Int} {k:Nat} (h:Mx w (matv r c at_) r c zs k):Zl w at_ zs k∧zs.length=r*c:=by
 obtain ⟨a,ps,e,h2,h3,h4,-,-⟩:=h;simp only [matv,Value.agg.injEq,Array.mk.injEq,List.cons.injEq,and_true,true_and] at e;subst e;exact ⟨zME h2 h3,h4⟩
theorem Zcs.at9 {B:Nat} {w:World} {b off l c:Nat} {ps:List (Value×Value)} {zs:List Int} {k:Nat} (h:Prs B w (.slice (some ⟨b,off,none⟩) l c) ps) (hz:Zcs w ps zs k) {i:Nat} (hi:i<zs.length):∃n,∃xs:List Int,∃a c,w.cell? ⟨b,off+i*2,none⟩=some (.bool n)∧w.cell? ⟨b,off+i*2+1,none⟩=some (.slice a xs.length c)∧Zc w (.agg #[.bool n,.slice a xs.length c]) zs[i] k:=by
 have hp:ps[i]?=some (ps[i]'(by rw [hz.1];exact hi)):=List.getElem?_eq_getElem _;have q:=h.at hp;have z:=hz.2 i _ _ hp (List.getElem?_eq_getElem hi);have z':=z;obtain ⟨n,xs,a,c,e,-⟩:=z;simp only [Value.agg.injEq,Array.mk.injEq,List.cons.injEq,and_true] at e;rw [e.1,e.2] at q;rw [e.1,e.2] at z';exact ⟨n,xs,a,c,q.1,q.2,z'⟩
def zmI (w:World) (n gk:Nat) (s:Value) (wx:World):Prop:=∃i:Nat,s=.int .i64 (i:Int)∧i≤n∧gk=n-i∧Below w.heap.size w wx
def Snd (r c:Int) (l:Nat):Prop:=0≤r∧r≤64∧0≤c∧c≤64∧(l:Int)=r*c

open Go.ChangeShapes Go.WideShapes Go.ChangeAt Go.RowKit
theorem Tryz.cellsM9:Tryz.prog.cellsOf 24=3:=by kernel_rfl
theorem Tryz.cellsI9:Tryz.prog.cellsOf 3=1:=by kernel_rfl
theorem Tryz.cellsL9:Tryz.prog.cellsOf 22=1:=by kernel_rfl
def Raw (w:World) (v:Value) (r c:Int) (l:Nat) (zs:List Int):Prop:=∃a cap ps,v=.agg #[.int .i64 r,.int .i64 c,.slice a l cap]∧Prs 0 w (.slice a l cap) ps∧Zis w ps zs 1048576∧zs.length=l∧l≤1048576
theorem Raw.mx {w:World} {v:Value} {r c l:Nat} {zs:List Int} (h:Raw w v (r:Int) (c:Int) l zs) (hs:Snd (r:Int) (c:Int) l):Mx w v r c zs 1048576:=by
 obtain ⟨a,cap,ps,h1,h2,h3,h4,h5⟩:=h;obtain ⟨s1,s2,s3,s4,s5⟩:=hs;exact ⟨_,ps,h1,h2,h3,by rw [h4];exact Int.ofNat.inj (by simpa using s5),by omega,by omega⟩
theorem trod_struct3m {H:Type} {enc:TypeId×Value→H} {P:Program} {w:World} {base:Nat} {spare:Nat→Bool} {held:Bool} {t:TypeId} {f0 f1 f2:Field} {fuel:Nat} {cs:List Value} {x:DataW H×List MemPlace} (ht:P.underlying t=some (.struct #[f0,f1,f2]))
  (h:DataW.trod enc P w base spare held fuel t cs=some x) :
  ∃y0 y1 y2 n,x.1=.agg [y0.1,y1.1,y2.1]∧cs.length=P.cellsOf t∧DataW.trod enc P w base spare held n f0.type ((cs.drop f0.offset).take (P.cellsOf f0.type))=some y0∧DataW.trod enc P w base spare held n f1.type ((cs.drop f1.offset).take (P.cellsOf f1.type))=some y1∧DataW.trod enc P w base spare held n f2.type ((cs.drop f2.offset).take (P.cellsOf f2.type))=some y2:=by
 obtain ⟨xs,n,_,rfl,hl,hlen,hf⟩:=DataW.trod_struct ht h
 match xs,hlen with
 | [y0,y1,y2],_=>exact ⟨y0,y1,y2,n,by simp,hl,by simpa using hf 0 f0 rfl,by simpa using hf 1 f1 rfl,by simpa using hf 2 f2 rfl⟩
theorem open_list9 {H:Type} {enc:TypeId×Value→H} {W:World} {fuel:Nat} {v:Value} {y:DataW H×List MemPlace}
  (hf:DataW.trod enc Tryz.prog W 0 (fun _=>true) true fuel 22 [v]=some y) (hb:Rows.uptoBulk y.1≤1048576) :
  ∃a l cap ps zs,v=.slice a l cap∧Prs 0 W (.slice a l cap) ps∧Zis W ps zs 1048576∧zs.length=l∧l≤1048576:=by
 have hn:∀c,v=.slice none 0 c→c=0:=by
  rcases Deep.open_slice Tryz.underlying22 hf with ⟨hcs,_⟩ | ⟨x,len,cap,m,n,D,Pl,hcs,_⟩
  ·simp only [List.cons.injEq,and_true] at hcs
   intro c e;rw [hcs] at e
   simpa using e.symm
  ·simp only [List.cons.injEq,and_true] at hcs
   intro c e;rw [hcs] at e;simp at e
 obtain ⟨zs,ks,h1,h2⟩:=zFE hf hb;have hz:=h1.zl (K:=1048576) (by omega);obtain ⟨ps,p1,p2⟩:=hz.prs hn;obtain ⟨a,c,e,-,hl,-⟩:=hz;subst e;exact ⟨a,zs.length,c,ps,zs,rfl,p1,p2,rfl,hl⟩
theorem open_mat9 {H:Type} {enc:TypeId×Value→H} {W:World} {r:Reach} {b0:Nat} {v:Value} {d:DataW H} {p:List MemPlace}
  (hv:Value.okWide Tryz.prog W r b0 24 v) (h0:DataW.Trod enc Tryz.prog W 0 (fun _=>true) true 24 v d p) (hb:Rows.uptoBulk d≤1048576) :
  ∃r c l zs,Raw W v r c l zs:=by
 obtain ⟨cs,rfl,hsz⟩:=okWide_struct Tryz.underlying24 hv;obtain ⟨fuel,hf⟩:=h0;obtain ⟨y0,y1,y2,n,hx,hl,t0,t1,t2⟩:=trod_struct3m Tryz.underlying24 hf;obtain ⟨L,rfl⟩:∃L:List Value,cs=L.toArray:=⟨cs.toList,by simp⟩
 simp only [Value.cells] at hl t0 t1 t2;rw [Tryz.cellsM9] at hl;have hx':d=.agg [y0.1,y1.1,y2.1]:=hx;subst hx';simp only [Rows.uptoBulk,Rows.uptoBulkAll] at hb
 match L,hl with
 | [e0,e1,e2],_ =>
  simp only [Tryz.cellsI9,Tryz.cellsL9,List.drop_zero,List.drop_succ_cons,List.take_succ_cons,List.take_zero] at t0 t1 t2;obtain ⟨k0,q0,_,_⟩:=DataW.trod_int Tryz.underlying3 t0;obtain ⟨k1,q1,_,_⟩:=DataW.trod_int Tryz.underlying3 t1;simp only [List.cons.injEq,and_true] at q0 q1;subst q0 q1;obtain ⟨a,l,cap,ps,zs,rfl,h1,h2,h3,h4⟩:=open_list9 t2 (by omega);exact ⟨_,_,l,zs,a,cap,ps,rfl,h1,h2,h3,h4⟩
end Go.Proofs.YtjnokjgbeploaaaGreat
namespace Go.Proofs.YtjnokjgbeploaaaGreat
def sumN (n:Nat) (f:Nat→Int):Int:=zsum ((List.range n).map f)
theorem zrE (n:Nat) (f:Nat→Int):sumN (n+1) f=sumN n f+f n:=by
 unfold sumN;rw [List.range_succ,List.map_append,zKC];simp [zsum]
theorem sumN_congr {n:Nat} {f g:Nat→Int} (h:∀t,t<n→f t=g t):sumN n f=sumN n g:=by
 induction n with
 | zero=>rfl
 | succ n ih=>rw [zrE,zrE,ih (fun t ht=>h t (by omega)),h n (by omega)]
theorem zcC {α:Type} {c j:Nat} {d:α} (hj:j<c):∀ {L:List (List α)} {i:Nat},(∀x∈L,x.length=c)→i<L.length→L.flatten.getD (i*c+j) d=(L.getD i []).getD j d
 | [],i,_,h=>by simp at h
 | a :: L,0,hL,_=>by
  have ha:a.length=c:=hL a (by simp);simp only [List.flatten_cons,Nat.zero_mul,Nat.zero_add,List.getD_cons_zero];rw [List.getD_eq_getElem?_getD,List.getD_eq_getElem?_getD,List.getElem?_append_left (by omega)]
 | a :: L,i+1,hL,h=>by
  have ha:a.length=c:=hL a (by simp);have h2:(i+1)*c=i*c+c:=by rw [Nat.add_mul,Nat.one_mul]
  have:=zcC hj (L:=L) (i:=i) (d:=d) (fun x hx=>hL x (by simp [hx])) (by simpa using h);simp only [List.flatten_cons,List.getD_cons_succ];rw [←this,List.getD_eq_getElem?_getD,List.getD_eq_getElem?_getD,List.getElem?_append_right (by omega),show (i+1)*c+j-a.length=i*c+j by omega]
theorem dotv_sum {m:Nat} {xs ys:List Int} (hx:xs.length=m):dotv xs ys=sumN m (fun t=>xs.getD t 0*ys.getD t 0):=by
 unfold dotv sumN;rw [hx]
theorem prod_at {r m c i j:Nat} {xs ys:List Int} (hx:xs.length=r*m) (hi:i<r) (hj:j<c):(zTE r m c xs ys).getD (i*c+j) 0=sumN m (fun t=>xs.getD (i*m+t) 0*ys.getD (t*c+j) 0):=by
 unfold zTE;rw [zcC hj (by intro x hx';simp only [List.mem_map] at hx';obtain ⟨row,_,rfl⟩:=hx';simp [colsL]) (by simp [rowsL];exact hi)];have e1:((rowsL r m xs).map fun row=>(colsL m c ys 0).map (dotv row)).getD i []=(colsL m c ys 0).map (dotv ((xs.drop (i*m)).take m)):=by simp [rowsL,hi]
 rw [e1];have e2:((colsL m c ys 0).map (dotv ((xs.drop (i*m)).take m))).getD j 0=dotv ((xs.drop (i*m)).take m) (colL c ys 0 m j):=by simp [colsL,hj]
 rw [e2];have h5:(i+1)*m≤r*m:=Nat.mul_le_mul_right m hi;have h6:(i+1)*m=i*m+m:=by rw [Nat.add_mul,Nat.one_mul]
 rw [dotv_sum (m:=m) (by simp;omega)];refine sumN_congr (fun t ht=>?_);have e3:((xs.drop (i*m)).take m).getD t 0=xs.getD (i*m+t) 0:=by
  rw [List.getD_eq_getElem?_getD,List.getD_eq_getElem?_getD,List.getElem?_take,if_pos ht,List.getElem?_drop]
 have e4:(colL c ys 0 m j).getD t 0=ys.getD (t*c+j) 0:=by simp [colL,ht]
 rw [e3,e4]
def zLB (zss:List (List Int)) (i:Nat):List Int:=zss.getD i []
def Wide (c:Nat) (m:List (List Int)):Prop:=∀r∈m,r.length=c
theorem Wide.at {c i:Nat} {m:List (List Int)} (h:Wide c m) (hi:i<m.length):(zLB m i).length=c:=by
 have e:zLB m i=m[i]:=by simp [zLB,hi]
 rw [e];exact h _ (List.getElem_mem hi)
theorem zpB {r c:Nat} {zs:List Int}:(rowsL r c zs).length=r:=by simp [rowsL]
open Go.RowKit
def Ty (T:TypeId) (w w':World):Prop:=w.heap.size≤w'.heap.size∧∀(b:Nat) (L:Array Value) (T':TypeId) (fr:Nat×Nat),w.heap[b]?=some (.cells L T' fr)→T'≠T→w'.heap[b]?=some (.cells L T' fr)
theorem Ty.of {T:TypeId} {w w':World} (h:Below w.heap.size w w'):Ty T w w':=⟨h.size,fun b L T' fr e _=>(h.block b (Array.getElem?_eq_some_iff.1 e).1).trans e⟩
theorem Ty.trans {T:TypeId} {a b c:World} (h:Ty T a b) (h':Ty T b c):Ty T a c:=⟨Nat.le_trans h.1 h'.1,fun g L T' fr e hne=>h'.2 g L T' fr (h.2 g L T' fr e hne) hne⟩
theorem Ty.set {T:TypeId} {w:World} {g i:Nat} {L:List Value} {u:Value} (d:Cel w g T L):Ty T w (w.setCell ⟨g,i,none⟩ u):=by
 refine ⟨by simp,fun b L' T' fr e hne=>?_⟩;have hb:b≠g:=fun q=>by
  subst q;have:=e.symm.trans (show w.heap[b]?=_ from d);simp at this;exact hne this.2.1
 exact (Below.heap_setCell w _ u b (fun q=>hb (by simpa using q))).trans e
theorem Ty.grown {T:TypeId} {w w':World} {B size n:Nat} {v:Value} {xs:List Value} (h:w.ownsRow B T size v n xs) (hg:w.grownBy w' v.ownBlock):Ty T w w':=by
 refine ⟨hg.size,fun b L' T' fr e hne=>(hg.block b (Array.getElem?_eq_some_iff.1 e).1 (fun q=>?_)).trans e⟩;obtain ⟨_,⟨q1,_⟩ | ⟨g,cap,cur,q1,_,q3,_⟩⟩:=h
 ·rw [q1] at q;cases q
 ·rw [q1] at q
  simp only [Value.ownBlock,Option.some.injEq] at q;subst q;have:=e.symm.trans q3;simp at this;exact hne this.2.1
theorem Zm.ty {T:TypeId} {B k:Nat} {w w':World} {v:Value} {z:Int} (h:Zm B w v z k) (ht:Ty T w w') (hT:58≠T):Zm B w' v z k:=by
 obtain ⟨n1,zs,a,c,e,hm,rest⟩:=h;refine ⟨n1,zs,a,c,e,?_,rest⟩;obtain ⟨hw,h | ⟨g,r,cap,h1,h2,h3,h4,h5,h6⟩⟩:=hm
 ·exact ⟨hw,.inl h⟩
 ·exact ⟨hw,.inr ⟨g,r,cap,h1,h2,h3,h4,h5,ht.2 g _ _ _ h6 hT⟩⟩
def PrsT (w:World) (v:Value) (ps:List (Value×Value)):Prop:=Prs 0 w v ps∧∀(b off l c:Nat),v=.slice (some ⟨b,off,none⟩) l c→∃(L:Array Value) (fr:Nat×Nat),w.heap[b]?=some (.cells L 39 fr)
theorem OwnP.prsT {B:Nat} {w:World} {v:Value} {ps:List (Value×Value)} (h:OwnP B w v ps) (hl:ps.length≤1048576):PrsT w v ps:=by
 refine ⟨(zzB h hl).mono (Nat.zero_le _),fun b off l c e=>?_⟩;obtain ⟨_,⟨q1,_⟩ | ⟨g,cap,cur,q1,_,q3,_⟩⟩:=h
 ·rw [q1] at e;cases e
 ·rw [q1] at e
  simp only [Value.slice.injEq,Option.some.injEq,Addr.mk.injEq] at e;obtain ⟨⟨rfl,-,-⟩,-,-⟩:=e;exact ⟨cur,_,q3⟩
def Zms (w:World) (ps:List (Value×Value)) (zs:List Int) (k:Nat):Prop:=ps.length=zs.length∧∀(j:Nat) (p:Value×Value) (z:Int),ps[j]?=some p→zs[j]?=some z→Zm 0 w (.agg #[p.1,p.2]) z k
theorem Zms.ty {T:TypeId} {w w':World} {ps:List (Value×Value)} {zs:List Int} {k:Nat} (h:Zms w ps zs k) (ht:Ty T w w') (hT:58≠T):Zms w' ps zs k:=⟨h.1,fun j p z hp hz=>(h.2 j p z hp hz).ty ht hT⟩
theorem Zms.now {w w':World} {ps:List (Value×Value)} {zs:List Int} {k:Nat} (h:Zms w ps zs k) (hb:Below w.heap.size w w'):Zms w' ps zs k:=⟨h.1,fun j p z hp hz=>(h.2 j p z hp hz).now hb⟩
theorem Zms.zcs {w:World} {ps:List (Value×Value)} {zs:List Int} {k:Nat} (h:Zms w ps zs k):Zcs w ps zs k:=⟨h.1,fun j p z hp hz=>(h.2 j p z hp hz).zc⟩
theorem Zms.append {w:World} {ps qs:List (Value×Value)} {zs ys:List Int} {k:Nat} (h:Zms w ps zs k) (h':Zms w qs ys k):Zms w (ps ++ qs) (zs ++ ys) k:=by
 refine ⟨by simp [h.1,h'.1],fun j p z hp hz=>?_⟩
 by_cases q:j<ps.length
 ·rw [List.getElem?_append_left q] at hp
  rw [List.getElem?_append_left (by rw [←h.1];exact q)] at hz;exact h.2 j p z hp hz
 ·rw [List.getElem?_append_right (by omega)] at hp
  rw [List.getElem?_append_right (by rw [←h.1];omega),←h.1] at hz;exact h'.2 _ p z hp hz
def FilM (wx:World) (g n i:Nat) (F:Nat→Int) (k:Nat):Prop:=∃ps,Arr wx g ps∧ps.length=n∧∀(j:Nat) (p:Value×Value),j<i→ps[j]?=some p→Zm 0 wx (.agg #[p.1,p.2]) (F j) k
theorem FilM.start {w:World} {g n:Nat} (h:Arr w g (List.replicate n zqA)) (F:Nat→Int) (k:Nat):FilM w g n 0 F k:=⟨_,h,by simp,fun j p hj=>by omega⟩
theorem FilM.step {w w':World} {g n i:Nat} {F:Nat→Int} {k:Nat} (h:FilM w g n i F k) (hb:Below w.heap.size w w'):FilM w' g n i F k:=by
 obtain ⟨ps,h1,h2,h3⟩:=h;exact ⟨ps,h1.step hb,h2,fun j p hj hp=>(h3 j p hj hp).now hb⟩
theorem FilM.put {w:World} {g n i:Nat} {F:Nat→Int} {k:Nat} {x y:Value} (h:FilM w g n i F k) (hi:i<n) (hz:Zm 0 w (.agg #[x,y]) (F i) k):FilM ((w.setCell ⟨g,i*2,none⟩ x).setCell ⟨g,i*2+1,none⟩ y) g n (i+1) F k:=by
 obtain ⟨ps,h1,h2,h3⟩:=h;have ht:Ty 39 w ((w.setCell ⟨g,i*2,none⟩ x).setCell ⟨g,i*2+1,none⟩ y):=(Ty.set h1.1).trans (Ty.set (h1.1.set _ _));refine ⟨ps.set i (x,y),h1.put (by omega) hz.zi.isI,by simpa using h2,fun j p hj hp=>?_⟩
 by_cases q:j=i
 ·subst q
  rw [List.getElem?_set_self (by omega),Option.some.injEq] at hp;subst hp;exact hz.ty ht (by decide)
 ·rw [List.getElem?_set_ne (by omega)] at hp
  exact (h3 j p (by omega) hp).ty ht (by decide)
theorem FilM.cells {w:World} {g n i j:Nat} {F:Nat→Int} {k:Nat} (h:FilM w g n i F k) (hj:j<n):∃m a l c,w.cell? ⟨g,j*2,none⟩=some (.bool m)∧w.cell? ⟨g,j*2+1,none⟩=some (.slice a l c)∧w.frozen? ⟨g,j*2,none⟩=false∧w.frozen? ⟨g,j*2+1,none⟩=false:=by
 obtain ⟨ps,h1,h2,h3⟩:=h;have hp:ps[j]?=some (ps[j]'(by omega)):=List.getElem?_eq_getElem (by omega);obtain ⟨m,a,l,c,e⟩:=h1.2 _ (List.getElem_mem (l:=ps) (n:=j) (by omega));have q:=h1.at hp;rw [e] at q;exact ⟨m,a,l,c,q.1,q.2,h1.1.fz _,h1.1.fz _⟩
def rowv (c g:Nat):Value:=.slice (some ⟨g,0,none⟩) c c
def Ones (gs:List Nat):Prop:=∀(i j g:Nat),gs[i]?=some g→gs[j]?=some g→i=j
def Sht (B:Nat) (w:World) (lv:Value) (c:Nat) (gs:List Nat) (m:List (List Int)) (k:Nat):Prop :=
 w.ownsRow B 22 1 lv gs.length (gs.map (rowv c))∧Ones gs∧gs.length=m.length∧(∀g∈gs,B≤g)∧Wide c m ∧
  ∀(j g:Nat),gs[j]?=some g→∃ps,Arr w g ps∧Zcs w ps (zLB m j) k
theorem Sht.form {B c k:Nat} {w:World} {lv:Value} {gs:List Nat} {m:List (List Int)} (h:Sht B w lv c gs m k):∃a cap,lv=.slice a m.length cap∧m.length≤cap∧(0<m.length→∃L,a=some ⟨L,0,none⟩∧B≤L∧L<w.heap.size):=by
 obtain ⟨⟨q1,⟨q2,q3⟩ | ⟨g,cap,cur,q2,q3,q4,q5,q6⟩⟩,h2,h3,h4,h5,h6⟩:=h
 ·exact ⟨none,0,by rw [q2,←h3,q3],by omega,fun q=>by omega⟩
 ·exact ⟨_,cap,by rw [q2,←h3],by omega,fun _=>⟨g,rfl,q3,(Array.getElem?_eq_some_iff.1 q4).1⟩⟩
theorem Sht.line {B c k L cap:Nat} {w:World} {gs:List Nat} {m:List (List Int)} (h:Sht B w (.slice (some ⟨L,0,none⟩) m.length cap) c gs m k) {i g:Nat} (hg:gs[i]?=some g):w.cell? ⟨L,i,none⟩=some (rowv c g)∧w.frozen? ⟨L,i,none⟩=false:=by
 obtain ⟨h1,h2,h3,h4,h5,h6⟩:=h;rw [←h3] at h1;have hi:i<gs.length:=(List.getElem?_eq_some_iff.1 hg).1;refine ⟨?_,h1.frozenAt i⟩;rw [h1.cellAt i (by omega)];simp [hg]
abbrev putp (w:World) (g t:Nat) (x y:Value):World:=(w.setCell ⟨g,t*2,none⟩ x).setCell ⟨g,t*2+1,none⟩ y
section
variable {P:Program} {ops:Array Oper} {Q:Exit→Act→World→Prop} {md:Region.Mode} {S:World→Prop} {n:Nat}
end






theorem zoD {w:World} {v u:Value} {z y:Int} {k l:Nat} (h0:Zi w v z k) (h1:Zi w u y l) (hy:y≠0) (hk:k≤1099511627776) (hl:l≤1099511627776) (hr:z.tmod y=0):Calls Tryz.prog 65 #[v,u] w (zAE 0 w (z.tdiv y) k) :=
 (exact_z h0 h1 hy hk hl).mono fun e w' h=>by
  rcases h with ⟨_,h⟩ | ⟨h,_⟩
  ·exact h
  ·exact absurd hr h














open Go.RowKit Go.Shelf
attribute [local go_sem] Oper.semAt_some
end Go.Proofs.YtjnokjgbeploaaaGreat
