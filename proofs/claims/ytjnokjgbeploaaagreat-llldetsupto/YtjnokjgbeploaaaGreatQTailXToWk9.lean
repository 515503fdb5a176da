/-
 QTailXToWk9: TailX, Round8, Rf11, UnitA9, Wk9, joined.
-/
import Derived.Test.YtjnokjgbeploaaaGreatQFil9ToDot9
import Derived.Test.YtjnokjgbeploaaaGreatQUnit9ToBw8

set_option maxRecDepth 100000
set_option maxHeartbeats 6400000
set_option linter.unusedVariables false
set_option linter.unusedSimpArgs false
namespace Go.Proofs.YtjnokjgbeploaaaGreat
open Go.RowKit
section
variable {P:Program} {ops:Array Oper} {Q:Exit→Act→World→Prop} {md:Region.Mode} {S:World→Prop} {X:List Nat}
def zkB (P:Program) (md:Region.Mode) (ops:Array Oper) (Q:Exit→Act→World→Prop) (S:World→Prop) (X:List Nat):Nat→Array Bool→Act→World→Prop
 | 0,listed,a,w=>Region.ready md ops listed=[]∧Q .normal a w
 | fuel+1,listed,a,w =>
  (Region.ready md ops listed=[]→Q .normal a w) ∧
  ∀i∈Region.ready md ops listed,wpOp P ops Q i (fun a' w'=>(X.contains i=false→S w→S w')∧zkB P md ops Q S X fuel (listed.setIfInBounds i true) a' w') a w
theorem zDE:∀(fuel:Nat) (listed:Array Bool) (a:Act) (w:World),zkB P md ops Q S X fuel listed a w→wpAny P md ops Q fuel listed a w
 | 0,_,_,_,h=>h
 | fuel+1,_,_,_,h=>⟨h.1,fun i hi=>wpOp_mono (fun a' w' h'=>zDE fuel _ a' w' h'.2) (h.2 i hi)⟩
theorem zxC {S':World→Prop} {i:Nat} {oi:Oper} {v:Value} (hi:ops[i]?=some oi) (hsel:∀(j:Nat) (o:Oper) cs b,ops[j]?=some o→o.op≠.select cs b)
  (hQ:∀c a w,Q (.panic c) (a.put oi.dst v) w→Q (.panic c) a w)
  (hX:∀(j:Nat) (w w':World),(∀oj,ops[j]?=some oj→∀e∈oj.after,Region.binds md e=true→e.on≠i)→((X.contains j=false→S w→S w')→S' w→S' w')) :
  ∀(fuel:Nat) (listed:Array Bool) (a:Act) (w:World),
   (∀j oj,ops[j]?=some oj→j≠i→listed.getD j true=false→(∀e∈oj.after,Region.binds md e=true→e.on≠i)→oi.apart ops oj=true) →
   i∈Region.ready md ops listed→YieldsIf P ops S' oi v a→S' w →
   zkB P md ops Q S X fuel (listed.setIfInBounds i true) (a.put oi.dst v) w→zkB P md ops Q S X (fuel+1) listed a w:=by
 intro fuel
 induction fuel with
 | zero =>
  intro listed a w _ hr hy hS H;refine ⟨fun h=>(by rw [h] at hr;cases hr),fun j hj=>?_⟩
  by_cases hji:j=i
  ·subst hji;exact hy.wpOp hi hS ⟨fun _ h=>h,H⟩
  ·have:=ready_mono hj hji
   rw [H.1] at this;cases this
 | succ fuel ih =>
  intro listed a w hfree hr hy hS H;refine ⟨fun h=>(by rw [h] at hr;cases hr),fun j hj=>?_⟩
  by_cases hji:j=i
  ·subst hji;exact hy.wpOp hi hS ⟨fun _ h=>h,H⟩
  ·have h1:=H.2 j (ready_mono hj hji)
   obtain ⟨hjun,oj,hoj,hall⟩:=mem_ready.1 hj;have hnot:∀e∈oj.after,Region.binds md e=true→e.on≠i:=fun e he hb heq=>by
    have h1:=hall e he hb;have h0:=(mem_ready.1 hr).1;rw [heq] at h1;rcases Nat.lt_or_ge i listed.size with h' | h'
    ·simp [h'] at h0 h1;rw [h0] at h1;cases h1
    ·simp [Array.getElem?_eq_none h'] at h1
   have h2:=wpOp_putIf hoj (hfree j oj hoj hji hjun hnot) (fun cs b=>hsel i oi cs b hi) (fun cs b=>hsel j oj cs b hoj) hQ hy h1;have hfree':∀k ok,ops[k]?=some ok→k≠i→(listed.setIfInBounds j true).getD k true=false →
     (∀e∈ok.after,Region.binds md e=true→e.on≠i)→oi.apart ops ok=true:=fun k ok hk hki hun hno=>by
    refine hfree k ok hk hki ?_ hno
    by_cases hjk:j=k
    ·subst hjk;exact hjun
    ·rw [getD_set_ne true hjk] at hun;exact hun
   refine wpOp_mono (fun a' w' h3=>⟨h3.2.1,ih (listed.setIfInBounds j true) a' w' hfree' (ready_mono hr (Ne.symm hji)) h3.1 (hX j w w' (fun o' ho'=>by rw [hoj] at ho';cases ho';exact hnot) h3.2.1 hS) ?_⟩) h2;rw [Array.setIfInBounds_comm _ _ hji];exact h3.2.2
def zFI (md:Region.Mode) (ops:Array Oper) (X:List Nat) (i:Nat):Bool :=
 X.all (fun j=>match ops[j]? with
  | some oj=>oj.after.toList.any (fun e=>Region.binds md e && e.on == i)
  | none=>false)
theorem zhA {i:Nat} {oi:Oper} {v:Value} {fuel:Nat} {listed:Array Bool} {a:Act} {w:World} (hi:ops[i]?=some oi)
  (hok:(Region.noSelect ops && Region.free md ops listed i && (Region.ready md ops listed).contains i && zFI md ops X i)=true)
  (hQ:∀c a w,Q (.panic c) (a.put oi.dst v) w→Q (.panic c) a w) (hy:YieldsIf P ops S oi v a) (hS:S w)
  (h:zkB P md ops Q S X fuel (listed.setIfInBounds i true) (a.put oi.dst v) w):zkB P md ops Q S X (fuel+1) listed a w:=by
 simp only [Bool.and_eq_true] at hok;obtain ⟨⟨⟨h1,h2⟩,h3⟩,h4⟩:=hok;refine zxC hi (Region.noSelect_spec h1) hQ (fun j w w' hn hk hs=>hk ?_ hs) fuel listed a w (Region.free_spec hi h2) (by simpa using h3) hy hS h;cases hc:X.contains j with
 | false=>rfl
 | true =>
  unfold zFI at h4;have h5:=List.all_eq_true.1 h4 j (by simpa using hc);cases ho:ops[j]? with
  | none=>rw [ho] at h5;cases h5
  | some oj =>
   rw [ho] at h5;obtain ⟨e,he,hb⟩:=List.any_eq_true.1 h5;simp only [Bool.and_eq_true,beq_iff_eq] at hb;exact absurd hb.2 (hn oj ho e (Array.mem_toList_iff.1 he) hb.1)
theorem zIA {i:Nat} {oi:Oper} {v:Value} {fuel:Nat} {listed:Array Bool} {a:Act} {w:World} (hi:ops[i]?=some oi)
  (hok:(Region.noSelect ops && Region.free md ops listed i && (Region.ready md ops listed).contains i)=true)
  (hQ:∀c a w,Q (.panic c) (a.put oi.dst v) w→Q (.panic c) a w) (hy:YieldsIf P ops (fun _=>True) oi v a)
  (h:zkB P md ops Q S X fuel (listed.setIfInBounds i true) (a.put oi.dst v) w):zkB P md ops Q S X (fuel+1) listed a w:=by
 simp only [Bool.and_eq_true] at hok;obtain ⟨⟨h1,h2⟩,h3⟩:=hok;exact zxC (S':=fun _=>True) hi (Region.noSelect_spec h1) hQ (fun _ _ _ _ _ _=>trivial) fuel listed a w (Region.free_spec hi h2) (by simpa using h3) hy trivial h
theorem zxB {i:Nat} {o:Oper} {fuel:Nat} {listed:Array Bool} {a:Act} {w:World} (hr:Region.ready md ops listed=[i]) (ho:ops[i]?=some o)
  (h:∀K':Act→World→Prop,Shut (∀a' w',(X.contains i=false→S w→S w')→zkB P md ops Q S X fuel (listed.setIfInBounds i true) a' w'→K' a' w')→if Region.wanted o (yielded ops a.tmps)=true then Oper.wp P o a w K' Q else K' (a.put o.dst undef) w) :
  zkB P md ops Q S X (fuel+1) listed a w:=by
 refine ⟨fun h0=>(by rw [hr] at h0;cases h0),fun j hj=>?_⟩;rw [hr] at hj;obtain rfl:=List.mem_singleton.1 hj;exact wpOp_step ho (fun K' hK=>h K' (fun a' w' hS hW=>hK a' w' ⟨hS,hW⟩))
theorem zUD {listed:Array Bool} {a:Act} {w:World} (hr:Region.ready md ops listed=[]) (h:Q .normal a w) :
  ∀fuel,zkB P md ops Q S X fuel listed a w
 | 0=>⟨hr,h⟩
 | _+1=>⟨fun _=>h,by rw [hr];simp⟩
theorem zTD (S:World→Prop) (X:List Nat) {id:Nat} {a:Act} {w:World} (hm:P.follows .mixedOrders=true)
  (h:zkB P .any ops Q S X ops.size (Array.replicate ops.size false) a w.drew):(Code.region id ops true).wp P Q a w :=
 wp_region_any hm (zDE _ _ _ _ h)
end
open Go.RowKit Go.Shelf
theorem rows_in {n:Nat} {P:Program} {row:String} {args:Array Value} {w:World} {R:Value→World→Prop} (l:Nat) (h:Rows P row args w R):RowsIn (Fence.wide.inRound l) n P row args w R :=
 fun c cs _=>let ⟨v,w',r,s⟩:=h c cs;⟨v,w',r,stepsIn_wide.2 s⟩
theorem zKG {P:Program} {l n:Nat} {o:Oper} {a:Act} {w:World} {K:Act→World→Prop} {Q:Exit→Act→World→Prop} (hno:∀c,o.op≠.defer c) (h:o.wp P a w K Q):o.wpIn (Fence.wide.inRound l) n P a w K Q:=by
 refine ⟨fun _ _=>trivial,?_⟩;rw [Fence.inRound_round,Oper.semAt_some l a.eval o hno];unfold Oper.wp at h;generalize (execOp a.eval o).run P w=r at *;cases r with
 | ok x w' =>
  cases x <;> simp only [Oper.upon,Oper.uponIn] at h ⊢
  all_goals first
   | exact h
   | exact ⟨fun e=>(by cases e),CallsIn.inRound l (callsIn_wide.2 h)⟩
   | exact ⟨fun e=>(by cases e),rows_in l h⟩
   | exact h.elim
 | halt x w'=>cases x <;> simp only [Oper.upon,Oper.uponIn] at h ⊢ <;> first | exact h | exact h.elim
theorem zjC {P:Program} {l n:Nat} {md:Region.Mode} {ops:Array Oper} {Q:Exit→Act→World→Prop} (hno:∀(i:Nat) (o:Oper),ops[i]?=some o→∀c,o.op≠.defer c) (hL:¬LetsOut Q) :
  ∀fuel listed a w,wpAny P md ops Q fuel listed a w→wpAnyIn (Fence.wide.inRound l) n P md ops Q fuel listed a w
 | 0,listed,a,w,h=>h
 | fuel+1,listed,a,w,h=>by
  refine ⟨h.1,fun i hi=>?_⟩;have q:=h.2 i hi;unfold wpOp at q;unfold wpOpIn;cases ho:ops[i]? with
  | none=>rw [ho] at q;exact zjC hno hL fuel _ _ _ q
  | some o =>
   rw [ho] at q;simp only at q ⊢
   by_cases hw:Region.wanted o (yielded ops a.tmps)=true
   ·rw [if_pos hw] at q ⊢
    rcases q with q | ⟨_,q⟩
    ·exact Oper.wpIn_mono (fun a w=>zjC hno hL fuel _ a w) (zKG (hno i o ho) q)
    ·exact absurd q hL
   ·rw [if_neg hw] at q ⊢
    exact ⟨fun _ _=>trivial,zjC hno hL fuel _ _ _ q⟩
theorem zAD {P:Program} {l n id:Nat} {ops:Array Oper} {Q:Exit→Act→World→Prop} {a:Act} {w:World} (hm:P.follows .mixedOrders=true) (hno:∀(i:Nat) (o:Oper),ops[i]?=some o→∀c,o.op≠.defer c) (hL:¬LetsOut Q)
  (h:wpAny P .any ops Q ops.size (Array.replicate ops.size false) a w.drew):(Code.region id ops true).wpIn (Fence.wide.inRound l) n P Q a w :=
 wpIn_region_any hm (zjC hno hL _ _ _ _ h)
theorem zEC {A B:World} (h:Below A.heap.size A B):A.grownBy B none:=⟨h.os,h.tape,h.output,h.size,fun k hk _=>h.block k hk⟩
theorem zOI {σ α:Type} {P:Program} {n:Nat} {g:Operand} {ps:Array Tmp} {assign body:Code} {Q:Exit→Act→World→Prop} {a:Act} {w:World}
  (h1:1≤n) {gf:Nat} {lb:Array Value} (hg:a.eval g=.func (.func gf) #[] lb) (eg:∀args w,(callFunc gf args).run P w=.ok (.enter gf args) w)
  (enc:α→Array Value) (hps:∀x,(enc x).size=ps.size)
  (J:σ→World→Prop) (hJ:OwnFrom w.heap.size J) (At:σ→α→World→Prop) (hAt:∀s x,OwnFrom w.heap.size (fun (_:Unit) W=>At s x W)) (nx:σ→α→σ)
  (Kp:σ→World→World→Prop) (hKt:∀ {s:σ} {A B C:World},Kp s A B→Kp s B C→Kp s A C) (hKb:∀(s:σ) (W:World) (l:Nat) (o o':Obj),w.heap.size≤l→W.heap[l]?=some o→o.isCells=false→Kp s W (W.putObj l o'))
  (Ini Fin:σ→Prop) (h0:∀s,Ini s→J s w)
  (hit:∀(l:Nat) (J':σ→World→Prop) (W:World),Below w.heap.size w W→(∀s X,J' s X→J s X)→(∀s A B,J' s A→Below A.heap.size A B→J' s B)→(∀s,Ini s→J' s W) →
   (∀s x X,J' s X→At s x X→YieldAt Fence.wide (n-1-1) P l (enc x) X fun e Y=>e=.returned (.bool true)∧J' (nx s x) Y∧Kp s X Y) →
   CallsIn Fence.wide (n-1) P gf (#[.func (.yield l) #[] #[]] ++ lb) W fun e Y=>(∃v,e=.returned v)∧∃s,Fin s∧J' s Y)
  (a₁:α→Act) (hassign:∀(l:Nat) (x:α) (W:World) (K:Act→World→Prop),K (a₁ x) W →
   assign.wpIn (Fence.wide.inRound l) (n-1-1) P (Exit.then K (fun _ _ _=>False)) { tmps:=(ps.zip (enc x)).foldl (fun t (p,v)=>t.setIfInBounds p v) a.tmps,defers:=[] } W)
  (hbody:∀(l:Nat) (s:σ) (x:α) (W:World),J s W→At s x W→body.wpIn (Fence.wide.inRound l) (n-1-1) P (fun e _ Y=>e=.normal∧KeepsFrom w.heap.size W Y∧J (nx s x) Y∧Kp s W Y) (a₁ x) W)
  (hdone:∀(D:Nat) (s:σ) (W:World),w.heap.size≤D→Fin s→J s W→W.heap[D]?=some (.deferred (some []))→Q .normal { a with defers:={ target:=.collected D,args:=#[] } :: a.defers } W) :
  (Code.rangeFunc g ps assign body).wpIn Fence.wide n P Q a w:=by
 refine wpIn_rangeFunc fun fn hfn=>?_
 obtain ⟨R,hR⟩:∃R:LoopState→Option Code→Loop,R=fun st pe=>{ state:=st,pending:=pe,fn,tmps:=a.tmps,params:=ps,assign,body,defers:=w.heap.size }:=⟨_,rfl⟩
 obtain ⟨W1,hW1⟩:∃W1,(w.alloc (.deferred (some []))).alloc (.loop (R .ready none))=W1:=⟨_,rfl⟩
 have bw:Below w.heap.size w W1:=by rw [←hW1];exact (((Below.refl _ w).alloc (Nat.le_refl _) _).alloc (by simp) _)
 have hL:W1.heap[w.heap.size+1]?=some (.loop (R .ready none)):=by
  rw [←hW1];have:=World.alloc_heap_new (w.alloc (.deferred (some []))) (.loop (R .ready none))
  rwa [World.size_alloc] at this
 have hD:W1.heap[w.heap.size]?=some (.deferred (some [])):=by
  rw [←hW1];exact (Below.heap_alloc _ _ _ (by simp)).trans (World.alloc_heap_new w _)
 refine ⟨w.heap.size+1,[{ target:=.collected w.heap.size,args:=#[] }],W1,{ target:=.fn (.func gf) lb,args:=#[.func (.yield (w.heap.size+1)) #[] #[]] },W1,gf,#[.func (.yield (w.heap.size+1)) #[] #[]] ++ lb,W1,?_,?_,fun _ _=>trivial,?_,fun _=>h1,?_⟩
 ·rw [←hW1,hR];exact run_enterLoop_outer _ _ _ _ _
 ·simp only [resolve,hg]
  simp [go_sem]
 ·simp [invoke,go_sem,eg]
 ·refine (hit (w.heap.size+1) (fun s W=>J s W∧W.heap[w.heap.size+1]?=some (.loop (R .ready none))∧W.heap[w.heap.size]?=some (.deferred (some []))) W1 bw (fun s X h=>h.1)
   (fun s A B h b=>⟨hJ s A B none h.1 (zEC b) (fun r e=>by cases e),(b.block _ (Array.getElem?_eq_some_iff.1 h.2.1).1).trans h.2.1,(b.block _ (Array.getElem?_eq_some_iff.1 h.2.2).1).trans h.2.2⟩)
   (fun s hs=>⟨hJ s w W1 none (h0 s hs) (zEC bw) (fun r e=>by cases e),hL,hD⟩) ?_).mono ?_
  ·rintro s x X ⟨hj,hl,hk⟩ hat
   have hlt:w.heap.size+1<X.heap.size:=(Array.getElem?_eq_some_iff.1 hl).1;have hy:=run_yield (P:=P) (args:=enc x) hl (by rw [hR];exact hps x);rw [hR] at hy;refine ⟨fn,_,assign,body,hy,roundIn_of_wpIn hfn (hassign _ x X _ ?_)⟩;clear hy;refine ⟨_,run_beginRound hl (by rw [hR]),?_⟩;obtain ⟨X2,hX2⟩:∃X2,X.putObj (w.heap.size+1) (.loop { R .ready none with state:=.busy })=X2:=⟨_,rfl⟩
   have hl2:X2.heap[w.heap.size+1]?=some (.loop { R .ready none with state:=.busy }):=by rw [←hX2];exact World.putObj_heap_same hlt
   have hk2:X2.heap[w.heap.size]?=some (.deferred (some [])):=by rw [←hX2];exact (World.putObj_heap_other (by omega)).trans hk
   have hj2:J s X2:=by rw [←hX2];exact hJ.putObj _ hj (by omega) hl rfl
   have ha2:At s x X2:=by rw [←hX2];exact (hAt s x).putObj (s:=()) _ hat (by omega) hl rfl
   have hp2:Kp s X X2:=by rw [←hX2];exact hKb s _ _ _ _ (by omega) hl rfl
   rw [hX2];refine wpIn_mono (hbody _ s x X2 hj2 ha2) ?_;rintro e a3 X3 ⟨rfl,q1,q2,q3⟩;have hl3:=q1.same _ _ (by omega) hl2 rfl;have hr:=run_endRound (P:=P) none hl3;refine ⟨_,_,hr,rfl,⟨hJ.putObj _ q2 (by omega) hl3 rfl,?_,?_⟩,hKt (hKt hp2 q3) (hKb s _ _ _ _ (by omega) hl3 rfl)⟩
   ·have:=World.putObj_heap_same (w:=X3) (r:=w.heap.size+1) (o:=.loop { { R .ready none with state:=.busy } with state:=.ready,pending:=none }) (Array.getElem?_eq_some_iff.1 hl3).1
    rw [hR] at this ⊢;exact this
   ·exact (World.putObj_heap_other (by omega)).trans (q1.same _ _ (Nat.le_refl _) hk2 rfl)
  ·rintro e Y ⟨⟨v,rfl⟩,s,hf,hj,hl,hk⟩
   have hr:=run_endLoop (P:=P) hl (by rw [hR];simp);refine ⟨_,_,hr,?_⟩;rw [hR];exact hdone _ s _ (Nat.le_refl _) hf (hJ.putObj _ hj (by omega) hl rfl) ((World.putObj_heap_other (by omega)).trans hk)
end Go.Proofs.YtjnokjgbeploaaaGreat
namespace Go.Proofs.YtjnokjgbeploaaaGreat
open Go.RowKit
theorem Mx.wk {w:World} {v:Value} {r c:Nat} {zs:List Int} {k b:Nat} (h:Mx w v r c zs k) {x0 x1:Int} {a:Option Addr} {l n:Nat} (d:Cel w b 24 [.int .i64 x0,.int .i64 x1,.slice a l n]) (y0 y1 y2:Value):Mx (put3 w b y0 y1 y2) v r c zs k:=by
 obtain ⟨at_,ps,h1,h2,h3,h4⟩:=h;refine ⟨at_,ps,h1,?_,h3.wk (d.wk3 _ _ _),h4⟩;obtain ⟨a',c',e1,e2,e3,e4,e5⟩:=h2;refine ⟨a',c',e1,e2,e3,e4,?_⟩;rcases e5 with e5 | ⟨b',off,e6,e7,e8,e9⟩
 ·exact .inl e5
 ·refine .inr ⟨b',off,e6,e7,by simpa using e8,fun j p hp=>?_⟩
  have hne:b≠b':=by
   intro e;subst e;obtain ⟨n1,a1,l1,c1,q⟩:=h3.isI p (List.mem_of_getElem? hp);have q1:=(e9 j p hp).1;rw [show p.1=.bool n1 by rw [q]] at q1;have q2:w.heap[b]?=some (.cells #[.int .i64 x0,.int .i64 x1,.slice a l n] 24 (0,0)):=d;simp only [World.cell?,q2] at q1;simp at q1;generalize off+j*2=o at q1
   match o,q1 with
   | 0,q1=>simp at q1
   | 1,q1=>simp at q1
   | 2,q1=>simp at q1
   | o+3,q1=>simp at q1
  have e:∀o,(put3 w b y0 y1 y2).cell? ⟨b',o,none⟩=w.cell? ⟨b',o,none⟩:=fun o=>by
   rw [World.cell?_setCell_other _ _ _ _ (by simp <;> omega),World.cell?_setCell_other _ _ _ _ (by simp <;> omega),World.cell?_setCell_other _ _ _ _ (by simp <;> omega)]
  rw [e,e];exact e9 j p hp
end Go.Proofs.YtjnokjgbeploaaaGreat
