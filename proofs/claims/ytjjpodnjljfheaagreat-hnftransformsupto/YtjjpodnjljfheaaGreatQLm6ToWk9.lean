/-
 QLm6ToWk9: Lm6, CrtPure, TailA, Crt6, CrtLPure, Fit8, Chain8, IsChain8, Bw8, TailX, Round8, Rf11, Pure9, St11, Ty9, Sh11, UnitA9, Wk9, joined.
-/
import Derived.Test.YtjjpodnjljfheaaGreatQExt6
import Derived.Test.YtjjpodnjljfheaaGreatQZModToGcd6
import Derived.Test.YtjjpodnjljfheaaGreatQFil9ToRowsOf9
import Derived.Test.YtjjpodnjljfheaaGreatQAlikeToShift
import Derived.Test.YtjjpodnjljfheaaGreatQZOnesToZCmp
import Derived.Test.YtjjpodnjljfheaaGreatQZStoreToLst9
import Derived.Deep.LoopGhost
import Derived.Test.YtjjpodnjljfheaaGreatQMulToOnes
import Derived.RangeFuncNested
import Derived.RangeFuncBound
import Derived.RangeFuncCalls
import Derived.RangeFuncLeaves
import Derived.RangeFuncBox
import Derived.Shelf.Abstract
import Derived.Shelf.RegionOpen
import Derived.WalkKit
import Derived.OwnWalkIn
import Derived.TacticsInMore
import Derived.LoopNIn
import Derived.LoopIn
import Derived.Test.YtjjpodnjljfheaaGreatQUnit9ToDz12
import Derived.Test.YtjjpodnjljfheaaGreatQCat9ToColsP9
import Derived.Laws.OwnMore

set_option maxRecDepth 100000
set_option maxHeartbeats 6400000
set_option linter.unusedVariables false
set_option linter.unusedSimpArgs false
namespace Go.Proofs.YtjjpodnjljfheaaGreat
open Go.RowKit

section
variable {P:Program} {ops:Array Oper} {Q:Exit→Act→World→Prop} {md:Region.Mode} {S:World→Prop} {n:Nat}
end





open Go.RowKit Go.Shelf
attribute [local go_sem] Oper.semAt_some
end Go.Proofs.YtjjpodnjljfheaaGreat
namespace Go.Proofs.YtjjpodnjljfheaaGreat
open Go.RowKit
section
variable {P:Program} {ops:Array Oper} {Q:Exit→Act→World→Prop} {md:Region.Mode} {S:World→Prop} {X:List Nat}
end
open Go.RowKit Go.Shelf
theorem rows_in {n:Nat} {P:Program} {row:String} {args:Array Value} {w:World} {R:Value→World→Prop} (l:Nat) (h:Rows P row args w R):RowsIn (Fence.wide.inRound l) n P row args w R :=
 fun c cs _=>let ⟨v,w',r,s⟩:=h c cs;⟨v,w',r,stepsIn_wide.2 s⟩
theorem op_round {P:Program} {l n:Nat} {o:Oper} {a:Act} {w:World} {K:Act→World→Prop} {Q:Exit→Act→World→Prop} (hno:∀c,o.op≠.defer c) (h:o.wp P a w K Q):o.wpIn (Fence.wide.inRound l) n P a w K Q:=by
 refine ⟨fun _ _=>trivial,?_⟩;rw [Fence.inRound_round,Oper.semAt_some l a.eval o hno];unfold Oper.wp at h;generalize (execOp a.eval o).run P w=r at *;cases r with
 | ok x w' =>
  cases x <;> simp only [Oper.upon,Oper.uponIn] at h ⊢
  all_goals first
   | exact h
   | exact ⟨fun e=>(by cases e),CallsIn.inRound l (callsIn_wide.2 h)⟩
   | exact ⟨fun e=>(by cases e),rows_in l h⟩
   | exact h.elim
 | halt x w'=>cases x <;> simp only [Oper.upon,Oper.uponIn] at h ⊢ <;> first | exact h | exact h.elim
theorem znC {A B:World} (h:Below A.heap.size A B):A.grownBy B none:=⟨h.os,h.tape,h.output,h.size,fun k hk _=>h.block k hk⟩
theorem rangeW {σ α:Type} {P:Program} {n:Nat} {g:Operand} {ps:Array Tmp} {assign body:Code} {Q:Exit→Act→World→Prop} {a:Act} {w:World}
  (h1:1≤n) {gf:Nat} {lb:Array Value} (hg:a.eval g=.func (.func gf) #[] lb) (eg:∀args w,(callFunc gf args).run P w=.ok (.enter gf args) w)
  (enc:α→Array Value) (hps:∀x,(enc x).size=ps.size)
  (J:σ→World→Prop) (hJ:OwnFrom w.heap.size J) (At:σ→α→World→Prop) (hAt:∀s x,OwnFrom w.heap.size (fun (_:Unit) W=>At s x W)) (nx:σ→α→σ)
  (Kp:σ→World→World→Prop) (hKt:∀ {s:σ} {A B C:World},Kp s A B→Kp s B C→Kp s A C) (hKb:∀(s:σ) (W:World) (l:Nat) (o o':Obj),w.heap.size≤l→W.heap[l]?=some o→o.isCells=false→Kp s W (W.putObj l o'))
  (Ini Fin:σ→Prop) (h0:∀s,Ini s→J s w)
  (hit:∀(l:Nat) (J':σ→World→Prop) (W:World),Below w.heap.size w W→(∀s X,J' s X→J s X)→(∀s A B,J' s A→Below A.heap.size A B→J' s B)→(∀s,Ini s→J' s W) →
   (∀s x X,J' s X→At s x X→YieldAt Fence.wide (n-1-1) P l (enc x) X fun e Y=>e=.returned (.bool true)∧J' (nx s x) Y∧Kp s X Y) →
   CallsIn Fence.wide (n-1) P gf (#[.func (.yield l) #[] #[]] ++ lb) W fun e Y=>(∃v,e=.returned v)∧∃s,Fin s∧J' s Y)
  (a₁:α→Act) (hassign:∀(l:Nat) (x:α) (W:World) (K:Act→World→Prop),K (a₁ x) W →
   assign.wpIn (Fence.wide.inRound l) (n-1-1) P (Exit.then K (fun _ _ _=>False)) { tmps:=(ps.zip (enc x)).foldl (fun t (p,v)=>t.setIfInBounds p v) a.tmps,defers:=[] } W)
  (hbody:∀(l:Nat) (s:σ) (x:α) (W:World),J s W→At s x W→body.wpIn (Fence.wide.inRound l) (n-1-1) P (fun e _ Y=>e=.normal∧KeepsFrom w.heap.size W Y∧J (nx s x) Y∧Kp s W Y) (a₁ x) W)
  (hdone:∀(D:Nat) (s:σ) (W:World),w.heap.size≤D→Fin s→J s W→W.heap[D]?=some (.deferred (some []))→Q .normal { a with defers:={ target:=.collected D,args:=#[] } :: a.defers } W) :
  (Code.rangeFunc g ps assign body).wpIn Fence.wide n P Q a w:=by
 refine wpIn_rangeFunc fun fn hfn=>?_
 obtain ⟨R,hR⟩:∃R:LoopState→Option Code→Loop,R=fun st pe=>{ state:=st,pending:=pe,fn,tmps:=a.tmps,params:=ps,assign,body,defers:=w.heap.size }:=⟨_,rfl⟩
 obtain ⟨W1,hW1⟩:∃W1,(w.alloc (.deferred (some []))).alloc (.loop (R .ready none))=W1:=⟨_,rfl⟩
 have bw:Below w.heap.size w W1:=by rw [←hW1];exact (((Below.refl _ w).alloc (Nat.le_refl _) _).alloc (by simp) _)
 have hL:W1.heap[w.heap.size+1]?=some (.loop (R .ready none)):=by
  rw [←hW1];have:=World.alloc_heap_new (w.alloc (.deferred (some []))) (.loop (R .ready none))
  rwa [World.size_alloc] at this
 have hD:W1.heap[w.heap.size]?=some (.deferred (some [])):=by
  rw [←hW1];exact (Below.heap_alloc _ _ _ (by simp)).trans (World.alloc_heap_new w _)
 refine ⟨w.heap.size+1,[{ target:=.collected w.heap.size,args:=#[] }],W1,{ target:=.fn (.func gf) lb,args:=#[.func (.yield (w.heap.size+1)) #[] #[]] },W1,gf,#[.func (.yield (w.heap.size+1)) #[] #[]] ++ lb,W1,?_,?_,fun _ _=>trivial,?_,fun _=>h1,?_⟩
 ·rw [←hW1,hR];exact run_enterLoop_outer _ _ _ _ _
 ·simp only [resolve,hg]
  simp [go_sem]
 ·simp [invoke,go_sem,eg]
 ·refine (hit (w.heap.size+1) (fun s W=>J s W∧W.heap[w.heap.size+1]?=some (.loop (R .ready none))∧W.heap[w.heap.size]?=some (.deferred (some []))) W1 bw (fun s X h=>h.1)
   (fun s A B h b=>⟨hJ s A B none h.1 (znC b) (fun r e=>by cases e),(b.block _ (Array.getElem?_eq_some_iff.1 h.2.1).1).trans h.2.1,(b.block _ (Array.getElem?_eq_some_iff.1 h.2.2).1).trans h.2.2⟩)
   (fun s hs=>⟨hJ s w W1 none (h0 s hs) (znC bw) (fun r e=>by cases e),hL,hD⟩) ?_).mono ?_
  ·rintro s x X ⟨hj,hl,hk⟩ hat
   have hlt:w.heap.size+1<X.heap.size:=(Array.getElem?_eq_some_iff.1 hl).1;have hy:=run_yield (P:=P) (args:=enc x) hl (by rw [hR];exact hps x);rw [hR] at hy;refine ⟨fn,_,assign,body,hy,roundIn_of_wpIn hfn (hassign _ x X _ ?_)⟩;clear hy;refine ⟨_,run_beginRound hl (by rw [hR]),?_⟩;obtain ⟨X2,hX2⟩:∃X2,X.putObj (w.heap.size+1) (.loop { R .ready none with state:=.busy })=X2:=⟨_,rfl⟩
   have hl2:X2.heap[w.heap.size+1]?=some (.loop { R .ready none with state:=.busy }):=by rw [←hX2];exact World.putObj_heap_same hlt
   have hk2:X2.heap[w.heap.size]?=some (.deferred (some [])):=by rw [←hX2];exact (World.putObj_heap_other (by omega)).trans hk
   have hj2:J s X2:=by rw [←hX2];exact hJ.putObj _ hj (by omega) hl rfl
   have ha2:At s x X2:=by rw [←hX2];exact (hAt s x).putObj (s:=()) _ hat (by omega) hl rfl
   have hp2:Kp s X X2:=by rw [←hX2];exact hKb s _ _ _ _ (by omega) hl rfl
   rw [hX2];refine wpIn_mono (hbody _ s x X2 hj2 ha2) ?_;rintro e a3 X3 ⟨rfl,q1,q2,q3⟩;have hl3:=q1.same _ _ (by omega) hl2 rfl;have hr:=run_endRound (P:=P) none hl3;refine ⟨_,_,hr,rfl,⟨hJ.putObj _ q2 (by omega) hl3 rfl,?_,?_⟩,hKt (hKt hp2 q3) (hKb s _ _ _ _ (by omega) hl3 rfl)⟩
   ·have:=World.putObj_heap_same (w:=X3) (r:=w.heap.size+1) (o:=.loop { { R .ready none with state:=.busy } with state:=.ready,pending:=none }) (Array.getElem?_eq_some_iff.1 hl3).1
    rw [hR] at this ⊢;exact this
   ·exact (World.putObj_heap_other (by omega)).trans (q1.same _ _ (Nat.le_refl _) hk2 rfl)
  ·rintro e Y ⟨⟨v,rfl⟩,s,hf,hj,hl,hk⟩
   have hr:=run_endLoop (P:=P) hl (by rw [hR];simp);refine ⟨_,_,hr,?_⟩;rw [hR];exact hdone _ s _ (Nat.le_refl _) hf (hJ.putObj _ hj (by omega) hl rfl) ((World.putObj_heap_other (by omega)).trans hk)
end Go.Proofs.YtjjpodnjljfheaaGreat
namespace Go.Proofs.YtjjpodnjljfheaaGreat
theorem zRG {α:Type} {c j:Nat} {d:α} (hj:j<c):∀ {L:List (List α)} {i:Nat},(∀x∈L,x.length=c)→i<L.length→L.flatten.getD (i*c+j) d=(L.getD i []).getD j d
 | [],i,_,h=>by simp at h
 | a :: L,0,hL,_=>by
  have ha:a.length=c:=hL a (by simp);simp only [List.flatten_cons,Nat.zero_mul,Nat.zero_add,List.getD_cons_zero];rw [List.getD_eq_getElem?_getD,List.getD_eq_getElem?_getD,List.getElem?_append_left (by omega)]
 | a :: L,i+1,hL,h=>by
  have ha:a.length=c:=hL a (by simp);have h2:(i+1)*c=i*c+c:=by rw [Nat.add_mul,Nat.one_mul]
  have:=zRG hj (L:=L) (i:=i) (d:=d) (fun x hx=>hL x (by simp [hx])) (by simpa using h);simp only [List.flatten_cons,List.getD_cons_succ];rw [←this,List.getD_eq_getElem?_getD,List.getD_eq_getElem?_getD,List.getElem?_append_right (by omega),show (i+1)*c+j-a.length=i*c+j by omega]
theorem zIH {r c i j:Nat} (hi:i<r) (hj:j<c):i*c+j<r*c:=by
 have h5:(i+1)*c≤r*c:=Nat.mul_le_mul_right c hi;have h6:(i+1)*c=i*c+c:=by rw [Nat.add_mul,Nat.one_mul]
 omega
theorem zGG {n i t k:Nat} (ht:t<n) (hk:k<n):i*n+t=k*n+k↔i=k∧t=k:=by
 refine ⟨fun h=>?_,fun ⟨a,b⟩=>by rw [a,b]⟩;rcases Nat.lt_trichotomy i k with q | q | q
 ·have h5:(i+1)*n≤k*n:=Nat.mul_le_mul_right n q
  have h6:(i+1)*n=i*n+n:=by rw [Nat.add_mul,Nat.one_mul]
  omega
 ·subst q
  exact ⟨rfl,by omega⟩
 ·have h5:(k+1)*n≤i*n:=Nat.mul_le_mul_right n q
  have h6:(k+1)*n=k*n+n:=by rw [Nat.add_mul,Nat.one_mul]
  omega
theorem zyF {n i t:Nat} (hi:i<n) (ht:t<n):∀k,k≤n→(zfB n k).getD (i*n+t) 0=if i=t∧i<k then 1 else 0
 | 0,_=>by
  rw [if_neg (by omega)];simp [zfB,zIH hi ht]
 | k+1,hk=>by
  have ih:=zyF hi ht k (by omega);rw [zfB,List.getD_eq_getElem?_getD]
  by_cases q:i*n+t=k*n+k
  ·have:=(zGG ht (by omega)).1 q
   rw [q,List.getElem?_set_self (by rw [zKB];exact zIH (by omega) (by omega)),if_pos (by omega)]
   rfl
  ·rw [List.getElem?_set_ne (by omega),←List.getD_eq_getElem?_getD,ih]
   have h2:¬(i=k∧t=k):=fun h=>q ((zGG ht (by omega)).2 h)
   by_cases p:i=t∧i<k
   ·rw [if_pos p,if_pos (by omega)]
   ·rw [if_neg p,if_neg (by omega)]
theorem zpH {n i t:Nat} (hi:i<n) (ht:t<n):(zfB n n).getD (i*n+t) 0=if t=i then 1 else 0:=by
 rw [zyF hi ht n (Nat.le_refl _)]
 by_cases p:t=i
 ·rw [if_pos p,if_pos (by omega)]
 ·rw [if_neg p,if_neg (by omega)]
def zEC (zss:List (List Int)) (i:Nat):List Int:=zss.getD i []
def Wide (c:Nat) (m:List (List Int)):Prop:=∀r∈m,r.length=c
theorem Wide.at {c i:Nat} {m:List (List Int)} (h:Wide c m) (hi:i<m.length):(zEC m i).length=c:=by
 have e:zEC m i=m[i]:=by simp [zEC,hi]
 rw [e];exact h _ (List.getElem_mem hi)
theorem rows_wide {r c:Nat} {zs:List Int} (hl:zs.length=r*c):Wide c (rowsL r c zs):=rows_len hl
theorem zLB {r c:Nat} {zs:List Int}:(rowsL r c zs).length=r:=by simp [rowsL]
open Go.RowKit
def Ty (T:TypeId) (w w':World):Prop:=w.heap.size≤w'.heap.size∧∀(b:Nat) (L:Array Value) (T':TypeId) (fr:Nat×Nat),w.heap[b]?=some (.cells L T' fr)→T'≠T→w'.heap[b]?=some (.cells L T' fr)
theorem Ty.trans {T:TypeId} {a b c:World} (h:Ty T a b) (h':Ty T b c):Ty T a c:=⟨Nat.le_trans h.1 h'.1,fun g L T' fr e hne=>h'.2 g L T' fr (h.2 g L T' fr e hne) hne⟩
theorem Ty.set {T:TypeId} {w:World} {g i:Nat} {L:List Value} {u:Value} (d:Cel w g T L):Ty T w (w.setCell ⟨g,i,none⟩ u):=by
 refine ⟨by simp,fun b L' T' fr e hne=>?_⟩;have hb:b≠g:=fun q=>by
  subst q;have:=e.symm.trans (show w.heap[b]?=_ from d);simp at this;exact hne this.2.1
 exact (Below.heap_setCell w _ u b (fun q=>hb (by simpa using q))).trans e
theorem Ty.grown {T:TypeId} {w w':World} {B size n:Nat} {v:Value} {xs:List Value} (h:w.ownsRow B T size v n xs) (hg:w.grownBy w' v.ownBlock):Ty T w w':=by
 refine ⟨hg.size,fun b L' T' fr e hne=>(hg.block b (Array.getElem?_eq_some_iff.1 e).1 (fun q=>?_)).trans e⟩;obtain ⟨_,⟨q1,_⟩ | ⟨g,cap,cur,q1,_,q3,_⟩⟩:=h
 ·rw [q1] at q;cases q
 ·rw [q1] at q
  simp only [Value.ownBlock,Option.some.injEq] at q;subst q;have:=e.symm.trans q3;simp at this;exact hne this.2.1
theorem Zm.ty {T:TypeId} {B k:Nat} {w w':World} {v:Value} {z:Int} (h:Zm B w v z k) (ht:Ty T w w') (hT:49≠T):Zm B w' v z k:=by
 obtain ⟨n1,zs,a,c,e,hm,rest⟩:=h;refine ⟨n1,zs,a,c,e,?_,rest⟩;obtain ⟨hw,h | ⟨g,r,cap,h1,h2,h3,h4,h5,h6⟩⟩:=hm
 ·exact ⟨hw,.inl h⟩
 ·exact ⟨hw,.inr ⟨g,r,cap,h1,h2,h3,h4,h5,ht.2 g _ _ _ h6 hT⟩⟩
def PrsT (w:World) (v:Value) (ps:List (Value×Value)):Prop:=Prs 0 w v ps∧∀(b off l c:Nat),v=.slice (some ⟨b,off,none⟩) l c→∃(L:Array Value) (fr:Nat×Nat),w.heap[b]?=some (.cells L 47 fr)
theorem PrsT.ty {T:TypeId} {w w':World} {v:Value} {ps:List (Value×Value)} (h:PrsT w v ps) (ht:Ty T w w') (hT:47≠T):PrsT w' v ps:=by
 have key:∀(b off l c:Nat),v=.slice (some ⟨b,off,none⟩) l c→w'.heap[b]?=w.heap[b]?:=fun b off l c e=>by
  obtain ⟨L,fr,q⟩:=h.2 b off l c e;rw [ht.2 b L _ fr q hT,q]
 refine ⟨?_,fun b off l c e=>by
  obtain ⟨L,fr,q⟩:=h.2 b off l c e;exact ⟨L,fr,ht.2 b L _ fr q hT⟩⟩
 obtain ⟨a,c,h1,h2,h3,hx,h4⟩:=h.1;refine ⟨a,c,h1,h2,h3,hx,?_⟩;rcases h4 with h4 | ⟨b,off,h5,h5',h6,h7⟩
 ·exact .inl h4
 ·have e:=key b off ps.length c (by rw [h1,h5])
  refine .inr ⟨b,off,h5,h5',Nat.lt_of_lt_of_le h6 ht.1,fun j p hp=>?_⟩;have q:=h7 j p hp;exact ⟨(World.cell?_of_block (a:=⟨b,off+j*2,none⟩) e).trans q.1,(World.cell?_of_block (a:=⟨b,off+j*2+1,none⟩) e).trans q.2⟩
theorem Arr.prsT {w:World} {g:Nat} {ps:List (Value×Value)} (h:Arr w g ps) (hl:ps.length≤1048576):PrsT w (.slice (some ⟨g,0,none⟩) ps.length ps.length) ps:=by
 refine ⟨h.prs (Nat.zero_le _) hl (Nat.le_refl _),fun b off l c e=>?_⟩;simp only [Value.slice.injEq,Option.some.injEq,Addr.mk.injEq] at e;obtain ⟨⟨rfl,-,-⟩,-,-⟩:=e;exact ⟨_,_,h.1⟩
def Zms (w:World) (ps:List (Value×Value)) (zs:List Int) (k:Nat):Prop:=ps.length=zs.length∧∀(j:Nat) (p:Value×Value) (z:Int),ps[j]?=some p→zs[j]?=some z→Zm 0 w (.agg #[p.1,p.2]) z k
theorem Zms.ty {T:TypeId} {w w':World} {ps:List (Value×Value)} {zs:List Int} {k:Nat} (h:Zms w ps zs k) (ht:Ty T w w') (hT:49≠T):Zms w' ps zs k:=⟨h.1,fun j p z hp hz=>(h.2 j p z hp hz).ty ht hT⟩
theorem Zms.now {w w':World} {ps:List (Value×Value)} {zs:List Int} {k:Nat} (h:Zms w ps zs k) (hb:Below w.heap.size w w'):Zms w' ps zs k:=⟨h.1,fun j p z hp hz=>(h.2 j p z hp hz).now hb⟩
theorem Zms.zcs {w:World} {ps:List (Value×Value)} {zs:List Int} {k:Nat} (h:Zms w ps zs k):Zcs w ps zs k:=⟨h.1,fun j p z hp hz=>(h.2 j p z hp hz).zc⟩
def FilM (wx:World) (g n i:Nat) (F:Nat→Int) (k:Nat):Prop:=∃ps,Arr wx g ps∧ps.length=n∧∀(j:Nat) (p:Value×Value),j<i→ps[j]?=some p→Zm 0 wx (.agg #[p.1,p.2]) (F j) k
theorem FilM.start {w:World} {g n:Nat} (h:Arr w g (List.replicate n zGB)) (F:Nat→Int) (k:Nat):FilM w g n 0 F k:=⟨_,h,by simp,fun j p hj=>by omega⟩
theorem FilM.step {w w':World} {g n i:Nat} {F:Nat→Int} {k:Nat} (h:FilM w g n i F k) (hb:Below w.heap.size w w'):FilM w' g n i F k:=by
 obtain ⟨ps,h1,h2,h3⟩:=h;exact ⟨ps,h1.step hb,h2,fun j p hj hp=>(h3 j p hj hp).now hb⟩
theorem FilM.put {w:World} {g n i:Nat} {F:Nat→Int} {k:Nat} {x y:Value} (h:FilM w g n i F k) (hi:i<n) (hz:Zm 0 w (.agg #[x,y]) (F i) k):FilM ((w.setCell ⟨g,i*2,none⟩ x).setCell ⟨g,i*2+1,none⟩ y) g n (i+1) F k:=by
 obtain ⟨ps,h1,h2,h3⟩:=h;have ht:Ty 47 w ((w.setCell ⟨g,i*2,none⟩ x).setCell ⟨g,i*2+1,none⟩ y):=(Ty.set h1.1).trans (Ty.set (h1.1.set _ _));refine ⟨ps.set i (x,y),h1.put (by omega) hz.zi.isI,by simpa using h2,fun j p hj hp=>?_⟩
 by_cases q:j=i
 ·subst q
  rw [List.getElem?_set_self (by omega),Option.some.injEq] at hp;subst hp;exact hz.ty ht (by decide)
 ·rw [List.getElem?_set_ne (by omega)] at hp
  exact (h3 j p (by omega) hp).ty ht (by decide)
theorem FilM.cells {w:World} {g n i j:Nat} {F:Nat→Int} {k:Nat} (h:FilM w g n i F k) (hj:j<n):∃m a l c,w.cell? ⟨g,j*2,none⟩=some (.bool m)∧w.cell? ⟨g,j*2+1,none⟩=some (.slice a l c)∧w.frozen? ⟨g,j*2,none⟩=false∧w.frozen? ⟨g,j*2+1,none⟩=false:=by
 obtain ⟨ps,h1,h2,h3⟩:=h;have hp:ps[j]?=some (ps[j]'(by omega)):=List.getElem?_eq_getElem (by omega);obtain ⟨m,a,l,c,e⟩:=h1.2 _ (List.getElem_mem (l:=ps) (n:=j) (by omega));have q:=h1.at hp;rw [e] at q;exact ⟨m,a,l,c,q.1,q.2,h1.1.fz _,h1.1.fz _⟩
theorem FilM.done {w:World} {g n:Nat} {F:Nat→Int} {k:Nat} (h:FilM w g n n F k) (hn:n≤1048576):∃ps,PrsT w (.slice (some ⟨g,0,none⟩) n n) ps∧Zms w ps ((List.range n).map F) k:=by
 obtain ⟨ps,h1,rfl,h3⟩:=h;refine ⟨ps,h1.prsT hn,by simp,fun j p z hp hz=>?_⟩;have hj:j<ps.length:=(List.getElem?_eq_some_iff.1 hp).1;rw [List.getElem?_map,List.getElem?_range hj,Option.map_some,Option.some.injEq] at hz;subst hz;exact h3 j p hj hp
def rowv (c g:Nat):Value:=.slice (some ⟨g,0,none⟩) c c
def Ones (gs:List Nat):Prop:=∀(i j g:Nat),gs[i]?=some g→gs[j]?=some g→i=j

theorem Mx.wk {w:World} {v:Value} {r c:Nat} {zs:List Int} {k b:Nat} (h:Mx w v r c zs k) {x0 x1:Int} {a:Option Addr} {l n:Nat} (d:Cel w b 24 [.int .i64 x0,.int .i64 x1,.slice a l n]) (y0 y1 y2:Value):Mx (put3 w b y0 y1 y2) v r c zs k:=by
 obtain ⟨at_,ps,h1,h2,h3,h4⟩:=h;refine ⟨at_,ps,h1,?_,h3.wk (d.wk3 _ _ _),h4⟩;obtain ⟨a',c',e1,e2,e3,e4,e5⟩:=h2;refine ⟨a',c',e1,e2,e3,e4,?_⟩;rcases e5 with e5 | ⟨b',off,e6,e7,e8,e9⟩
 ·exact .inl e5
 ·refine .inr ⟨b',off,e6,e7,by simpa using e8,fun j p hp=>?_⟩
  have hne:b≠b':=by
   intro e;subst e;obtain ⟨n1,a1,l1,c1,q⟩:=h3.isI p (List.mem_of_getElem? hp);have q1:=(e9 j p hp).1;rw [show p.1=.bool n1 by rw [q]] at q1;have q2:w.heap[b]?=some (.cells #[.int .i64 x0,.int .i64 x1,.slice a l n] 24 (0,0)):=d;simp only [World.cell?,q2] at q1;simp at q1;generalize off+j*2=o at q1
   match o,q1 with
   | 0,q1=>simp at q1
   | 1,q1=>simp at q1
   | 2,q1=>simp at q1
   | o+3,q1=>simp at q1
  have e:∀o,(put3 w b y0 y1 y2).cell? ⟨b',o,none⟩=w.cell? ⟨b',o,none⟩:=fun o=>by
   rw [World.cell?_setCell_other _ _ _ _ (by simp <;> omega),World.cell?_setCell_other _ _ _ _ (by simp <;> omega),World.cell?_setCell_other _ _ _ _ (by simp <;> omega)]
  rw [e,e];exact e9 j p hp
end Go.Proofs.YtjjpodnjljfheaaGreat
