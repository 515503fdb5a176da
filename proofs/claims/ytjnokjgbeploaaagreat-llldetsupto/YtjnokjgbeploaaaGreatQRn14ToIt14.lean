/-
 QRn14ToIt14: Rn14, It14, joined.
-/
import Derived.Test.YtjnokjgbeploaaaGreatQTailXToWk9
import Derived.RangeFuncNested
import Derived.Test.YtjnokjgbeploaaaGreatQEachM11ToPr12
import Derived.Test.YtjnokjgbeploaaaGreatQDo14ToIx14
import Derived.Sort.LoopGhostIn

set_option maxRecDepth 100000
set_option maxHeartbeats 6400000
set_option linter.unusedVariables false
set_option linter.unusedSimpArgs false
namespace Go.Proofs.YtjnokjgbeploaaaGreat
open Go.RowKit Go.Shelf
theorem rangeH {σ α:Type} {P:Program} {n:Nat} {g:Operand} {ps:Array Tmp} {assign body:Code} {Q:Exit→Act→World→Prop} {a:Act} {w:World}
  (h1:1≤n) {gf:Nat} {lb:Array Value} (hg:a.eval g=.func (.func gf) #[] lb) (eg:∀args w,(callFunc gf args).run P w=.ok (.enter gf args) w)
  (enc:α→Array Value) (hps:∀x,(enc x).size=ps.size)
  (J:σ→World→Prop) (hJ:OwnFrom w.heap.size J) (At:σ→α→World→Prop) (hAt:∀s x,OwnFrom w.heap.size (fun (_:Unit) W=>At s x W)) (nx:σ→α→σ)
  (Kp:σ→World→World→Prop) (hKt:∀ {s:σ} {A B C:World},Kp s A B→Kp s B C→Kp s A C) (hKb:∀(s:σ) (W:World) (l:Nat) (o o':Obj),w.heap.size≤l→W.heap[l]?=some o→o.isCells=false→Kp s W (W.putObj l o'))
  (Mn:σ→Nat→World→Prop) (hJs:∀s A B gs,J s A→w.heap.size≤gs→Mn s gs A→zLA (· = gs) A B→J s B) (Ini Fin:σ→Prop) (h0:∀s,Ini s→J s w)
  (hit:∀(l:Nat) (J':σ→World→Prop) (W:World),Below w.heap.size w W→(∀s X,J' s X→J s X)→(∀s A B,J' s A→Below A.heap.size A B→J' s B)→(∀s A B gs,J' s A→W.heap.size≤gs→Mn s gs A→zLA (· = gs) A B→J' s B)→(∀s,Ini s→J' s W) →
   (∀s x X,J' s X→At s x X→YieldAt Fence.wide (n-1-1) P l (enc x) X fun e Y=>e=.returned (.bool true)∧J' (nx s x) Y∧Kp s X Y) →
   CallsIn Fence.wide (n-1) P gf (#[.func (.yield l) #[] #[]] ++ lb) W fun e Y=>(∃v,e=.returned v)∧∃s,Fin s∧J' s Y)
  (Ax:α→Act→World→Prop) (hAx:∀x a',OwnFrom w.heap.size (fun (_:Unit) W=>Ax x a' W))
  (hassign:∀(l:Nat) (s:σ) (x:α) (W:World) (K:Act→World→Prop),J s W→At s x W→(∀a' W',KeepsFrom w.heap.size W W'→Kp s W W'→J s W'→At s x W'→Ax x a' W'→K a' W') →
   assign.wpIn (Fence.wide.inRound l) (n-1-1) P (Exit.then K (fun _ _ _=>False)) { tmps:=(ps.zip (enc x)).foldl (fun t (p,v)=>t.setIfInBounds p v) a.tmps,defers:=[] } W)
  (hbody:∀(l:Nat) (s:σ) (x:α) (a':Act) (W:World),w.heap.size≤l→(∃r,W.heap[l]?=some (.loop r))→J s W→At s x W→Ax x a' W→body.wpIn (Fence.wide.inRound l) (n-1-1) P (fun e _ Y=>e=.normal∧KeepsFrom w.heap.size W Y∧J (nx s x) Y∧Kp s W Y) a' W)
  (hdone:∀(D:Nat) (s:σ) (W:World),w.heap.size≤D→Fin s→J s W→W.heap[D]?=some (.deferred (some []))→Q .normal { a with defers:={ target:=.collected D,args:=#[] } :: a.defers } W) :
  (Code.rangeFunc g ps assign body).wpIn Fence.wide n P Q a w:=by
 refine wpIn_rangeFunc fun fn hfn=>?_
 obtain ⟨R,hR⟩:∃R:LoopState→Option Code→Loop,R=fun st pe=>{ state:=st,pending:=pe,fn,tmps:=a.tmps,params:=ps,assign,body,defers:=w.heap.size }:=⟨_,rfl⟩
 obtain ⟨W1,hW1⟩:∃W1,(w.alloc (.deferred (some []))).alloc (.loop (R .ready none))=W1:=⟨_,rfl⟩
 have bw:Below w.heap.size w W1:=by rw [←hW1];exact (((Below.refl _ w).alloc (Nat.le_refl _) _).alloc (by simp) _)
 have hL:W1.heap[w.heap.size+1]?=some (.loop (R .ready none)):=by
  rw [←hW1];have:=World.alloc_heap_new (w.alloc (.deferred (some []))) (.loop (R .ready none))
  rwa [World.size_alloc] at this
 have sW1:W1.heap.size=w.heap.size+2:=by rw [←hW1];simp
 have hD:W1.heap[w.heap.size]?=some (.deferred (some [])):=by
  rw [←hW1];exact (Below.heap_alloc _ _ _ (by simp)).trans (World.alloc_heap_new w _)
 refine ⟨w.heap.size+1,[{ target:=.collected w.heap.size,args:=#[] }],W1,{ target:=.fn (.func gf) lb,args:=#[.func (.yield (w.heap.size+1)) #[] #[]] },W1,gf,#[.func (.yield (w.heap.size+1)) #[] #[]] ++ lb,W1,?_,?_,fun _ _=>trivial,?_,fun _=>h1,?_⟩
 ·rw [←hW1,hR];exact run_enterLoop_outer _ _ _ _ _
 ·simp only [resolve,hg]
  simp [go_sem]
 ·simp [invoke,go_sem,eg]
 ·refine (hit (w.heap.size+1) (fun s W=>J s W∧W.heap[w.heap.size+1]?=some (.loop (R .ready none))∧W.heap[w.heap.size]?=some (.deferred (some []))) W1 bw (fun s X h=>h.1)
   (fun s A B h b=>⟨hJ s A B none h.1 (zEC b) (fun r e=>by cases e),(b.block _ (Array.getElem?_eq_some_iff.1 h.2.1).1).trans h.2.1,(b.block _ (Array.getElem?_eq_some_iff.1 h.2.2).1).trans h.2.2⟩)
   (fun s A B gs h h1 h2 t=>⟨hJs s A B gs h.1 (by omega) h2 t,(t.block _ (Array.getElem?_eq_some_iff.1 h.2.1).1 (by omega)).trans h.2.1,(t.block _ (Array.getElem?_eq_some_iff.1 h.2.2).1 (by omega)).trans h.2.2⟩)
   (fun s hs=>⟨hJ s w W1 none (h0 s hs) (zEC bw) (fun r e=>by cases e),hL,hD⟩) ?_).mono ?_
  ·rintro s x X ⟨hj,hl,hk⟩ hat
   have hy:=run_yield (P:=P) (args:=enc x) hl (by rw [hR];exact hps x);rw [hR] at hy;refine ⟨fn,_,assign,body,hy,roundIn_of_wpIn hfn (hassign _ s x X _ hj hat fun a' X' qk qp qj qa qx=>?_)⟩;clear hy;have hl':=qk.same _ _ (by omega) hl rfl;have hk':=qk.same _ _ (Nat.le_refl _) hk rfl;have hlt:w.heap.size+1<X'.heap.size:=(Array.getElem?_eq_some_iff.1 hl').1;refine ⟨_,run_beginRound hl' (by rw [hR]),?_⟩;obtain ⟨X2,hX2⟩:∃X2,X'.putObj (w.heap.size+1) (.loop { R .ready none with state:=.busy })=X2:=⟨_,rfl⟩
   have hl2:X2.heap[w.heap.size+1]?=some (.loop { R .ready none with state:=.busy }):=by rw [←hX2];exact World.putObj_heap_same hlt
   have hk2:X2.heap[w.heap.size]?=some (.deferred (some [])):=by rw [←hX2];exact (World.putObj_heap_other (by omega)).trans hk'
   have hj2:J s X2:=by rw [←hX2];exact hJ.putObj _ qj (by omega) hl' rfl
   have ha2:At s x X2:=by rw [←hX2];exact (hAt s x).putObj (s:=()) _ qa (by omega) hl' rfl
   have hx2:Ax x a' X2:=by rw [←hX2];exact (hAx x a').putObj (s:=()) _ qx (by omega) hl' rfl
   have hp2:Kp s X X2:=by rw [←hX2];exact hKt qp (hKb s _ _ _ _ (by omega) hl' rfl)
   rw [hX2];refine wpIn_mono (hbody _ s x a' X2 (by omega) ⟨_,hl2⟩ hj2 ha2 hx2) ?_;rintro e a3 X3 ⟨rfl,q1,q2,q3⟩;have hl3:=q1.same _ _ (by omega) hl2 rfl;have hr:=run_endRound (P:=P) none hl3;refine ⟨_,_,hr,rfl,⟨hJ.putObj _ q2 (by omega) hl3 rfl,?_,?_⟩,hKt (hKt hp2 q3) (hKb s _ _ _ _ (by omega) hl3 rfl)⟩
   ·have:=World.putObj_heap_same (w:=X3) (r:=w.heap.size+1) (o:=.loop { { R .ready none with state:=.busy } with state:=.ready,pending:=none }) (Array.getElem?_eq_some_iff.1 hl3).1
    rw [hR] at this ⊢;exact this
   ·exact (World.putObj_heap_other (by omega)).trans (q1.same _ _ (Nat.le_refl _) hk2 rfl)
  ·rintro e Y ⟨⟨v,rfl⟩,s,hf,hj,hl,hk⟩
   have hr:=run_endLoop (P:=P) hl (by rw [hR];simp);refine ⟨_,_,hr,?_⟩;rw [hR];exact hdone _ s _ (Nat.le_refl _) hf (hJ.putObj _ hj (by omega) hl rfl) ((World.putObj_heap_other (by omega)).trans hk)
theorem rangeN {σ α:Type} {P:Program} {n:Nat} {g:Operand} {ps:Array Tmp} {assign body:Code} {Q:Exit→Act→World→Prop} {a:Act} {w:World}
  {l₀:Nat} {r₀:Loop} (hl₀:w.heap[l₀]?=some (.loop r₀))
  (h1:1≤n) {gf:Nat} {lb:Array Value} (hg:a.eval g=.func (.func gf) #[] lb) (eg:∀args w,(callFunc gf args).run P w=.ok (.enter gf args) w)
  (enc:α→Array Value) (hps:∀x,(enc x).size=ps.size)
  (J:σ→World→Prop) (hJ:OwnFrom w.heap.size J) (At:σ→α→World→Prop) (hAt:∀s x,OwnFrom w.heap.size (fun (_:Unit) W=>At s x W)) (nx:σ→α→σ)
  (Kp:σ→World→World→Prop) (hKt:∀ {s:σ} {A B C:World},Kp s A B→Kp s B C→Kp s A C) (hKb:∀(s:σ) (W:World) (l:Nat) (o o':Obj),w.heap.size≤l→W.heap[l]?=some o→o.isCells=false→Kp s W (W.putObj l o'))
  (Mn:σ→Nat→World→Prop) (hJs:∀s A B gs,J s A→w.heap.size≤gs→Mn s gs A→zLA (· = gs) A B→J s B) (Ini Fin:σ→Prop) (h0:∀s,Ini s→J s w)
  (hit:∀(l:Nat) (J':σ→World→Prop) (W:World),Below w.heap.size w W→(∀s X,J' s X→J s X)→(∀s A B,J' s A→Below A.heap.size A B→J' s B)→(∀s A B gs,J' s A→W.heap.size≤gs→Mn s gs A→zLA (· = gs) A B→J' s B)→(∀s,Ini s→J' s W) →
   (∀s x X,J' s X→At s x X→YieldAt Fence.wide (n-1-1) P l (enc x) X fun e Y=>e=.returned (.bool true)∧J' (nx s x) Y∧Kp s X Y) →
   CallsIn Fence.wide (n-1) P gf (#[.func (.yield l) #[] #[]] ++ lb) W fun e Y=>(∃v,e=.returned v)∧∃s,Fin s∧J' s Y)
  (a₁:α→Act) (hassign:∀(l:Nat) (x:α) (W:World) (K:Act→World→Prop),K (a₁ x) W →
   assign.wpIn (Fence.wide.inRound l) (n-1-1) P (Exit.then K (fun _ _ _=>False)) { tmps:=(ps.zip (enc x)).foldl (fun t (p,v)=>t.setIfInBounds p v) a.tmps,defers:=[] } W)
  (hbody:∀(l:Nat) (s:σ) (x:α) (W:World),J s W→At s x W→body.wpIn (Fence.wide.inRound l) (n-1-1) P (fun e _ Y=>e=.normal∧KeepsFrom w.heap.size W Y∧J (nx s x) Y∧Kp s W Y) (a₁ x) W)
  (hdone:∀(s:σ) (W:World),Fin s→J s W→Q .normal a W) :
  (Code.rangeFunc g ps assign body).wpIn (Fence.wide.inRound l₀) n P Q a w:=by
 refine wpIn_rangeFunc fun fn hfn=>?_
 obtain ⟨R,hR⟩:∃R:LoopState→Option Code→Loop,R=fun st pe=>{ state:=st,pending:=pe,fn,tmps:=a.tmps,params:=ps,assign,body,defers:=r₀.defers }:=⟨_,rfl⟩
 obtain ⟨W1,hW1⟩:∃W1,w.alloc (.loop (R .ready none))=W1:=⟨_,rfl⟩
 have bw:Below w.heap.size w W1:=by rw [←hW1];exact (Below.refl _ w).alloc (Nat.le_refl _) _
 have hL:W1.heap[w.heap.size]?=some (.loop (R .ready none)):=by rw [←hW1];exact World.alloc_heap_new w _
 have sW1:W1.heap.size=w.heap.size+1:=by rw [←hW1];simp
 refine ⟨w.heap.size,[],W1,{ target:=.fn (.func gf) lb,args:=#[.func (.yield w.heap.size) #[] #[]] },W1,gf,#[.func (.yield w.heap.size) #[] #[]] ++ lb,W1,?_,?_,fun _ _=>trivial,?_,fun _=>h1,?_⟩
 ·rw [←hW1,hR];exact run_enterLoop_inner hl₀ _ _ _ _ _
 ·simp only [resolve,hg]
  simp [go_sem]
 ·simp [invoke,go_sem,eg]
 ·refine CallsIn.mono (hit w.heap.size (fun s W=>J s W∧W.heap[w.heap.size]?=some (.loop (R .ready none))) W1 bw (fun s X h=>h.1)
   (fun s A B h b=>⟨hJ s A B none h.1 (zEC b) (fun r e=>by cases e),(b.block _ (Array.getElem?_eq_some_iff.1 h.2).1).trans h.2⟩)
   (fun s A B gs h h1 h2 t=>⟨hJs s A B gs h.1 (by omega) h2 t,(t.block _ (Array.getElem?_eq_some_iff.1 h.2).1 (by omega)).trans h.2⟩)
   (fun s hs=>⟨hJ s w W1 none (h0 s hs) (zEC bw) (fun r e=>by cases e),hL⟩) ?_) ?_
  ·rintro s x X ⟨hj,hl⟩ hat
   have hlt:w.heap.size<X.heap.size:=(Array.getElem?_eq_some_iff.1 hl).1;have hy:=run_yield (P:=P) (args:=enc x) hl (by rw [hR];exact hps x);rw [hR] at hy;refine ⟨fn,_,assign,body,hy,roundIn_of_wpIn (F:=Fence.wide.inRound l₀) hfn (hassign _ x X _ ?_)⟩;clear hy;refine ⟨_,run_beginRound hl (by rw [hR]),?_⟩;obtain ⟨X2,hX2⟩:∃X2,X.putObj w.heap.size (.loop { R .ready none with state:=.busy })=X2:=⟨_,rfl⟩
   have hl2:X2.heap[w.heap.size]?=some (.loop { R .ready none with state:=.busy }):=by rw [←hX2];exact World.putObj_heap_same hlt
   have hj2:J s X2:=by rw [←hX2];exact hJ.putObj _ hj (Nat.le_refl _) hl rfl
   have ha2:At s x X2:=by rw [←hX2];exact (hAt s x).putObj (s:=()) _ hat (Nat.le_refl _) hl rfl
   have hp2:Kp s X X2:=by rw [←hX2];exact hKb s _ _ _ _ (Nat.le_refl _) hl rfl
   rw [hX2];refine wpIn_mono (hbody _ s x X2 hj2 ha2) ?_;rintro e a3 X3 ⟨rfl,q1,q2,q3⟩;have hl3:=q1.same _ _ (Nat.le_refl _) hl2 rfl;have hr:=run_endRound (P:=P) none hl3;refine ⟨_,_,hr,rfl,⟨hJ.putObj _ q2 (Nat.le_refl _) hl3 rfl,?_⟩,hKt (hKt hp2 q3) (hKb s _ _ _ _ (Nat.le_refl _) hl3 rfl)⟩;have:=World.putObj_heap_same (w:=X3) (r:=w.heap.size) (o:=.loop { { R .ready none with state:=.busy } with state:=.ready,pending:=none }) (Array.getElem?_eq_some_iff.1 hl3).1;rw [hR] at this ⊢;exact this
  ·rintro e Y ⟨⟨v,rfl⟩,s,hf,hj,hl⟩
   have hr:=run_endLoop (P:=P) hl (by rw [hR];simp);refine ⟨_,_,hr,?_⟩;rw [hR];exact hdone s _ hf (hJ.putObj _ hj (Nat.le_refl _) hl rfl)
attribute [local go_sem] Oper.semAt_some
theorem zMI {n:Nat}:∀ {L:List (List Nat)},Run n L→∀t,t<L.length→nxt n (L.getD t [])=if t+1<L.length then some (L.getD (t+1) []) else none
 | [x],h,0,_=>h
 | [x],_,t+1,ht=>by simp at ht
 | x :: y :: r,h,0,_=>by
  rw [if_pos (by simp)];exact h.1
 | x :: y :: r,h,t+1,ht=>by
  have:=zMI (L:=y :: r) h.2 t (by simpa using ht);have e:((x :: y :: r).length=(y :: r).length+1):=rfl;rw [e]
  by_cases q:t+1<(y :: r).length
  ·rw [if_pos q] at this
   rw [if_pos (by omega)];exact this
  ·rw [if_neg q] at this
   rw [if_neg (by omega)];exact this
abbrev zXA (n k:Nat):List (List Nat):=lx n k n
theorem sts_run {n k:Nat} (h:k≤n) {t:Nat} (ht:t<(zXA n k).length):nxt n ((zXA n k).getD t [])=if t+1<(zXA n k).length then some ((zXA n k).getD (t+1) []) else none:=by
 obtain ⟨R,e,hR⟩:=zNG n n k (Nat.le_refl _) h;have hr:Run n (zXA n k):=by rw [show zXA n k=_ from e];exact hR
 exact zMI hr t ht
theorem zaD {n k:Nat} (h:k≤n):(zXA n k).getD 0 []=List.range k∧0<(zXA n k).length:=by
 obtain ⟨R,e,hR⟩:=zNG n n k (Nat.le_refl _) h;rw [show zXA n k=_ from e,Nat.sub_self,seqN_range];exact ⟨rfl,by simp⟩
theorem zaF {n k t:Nat} (ht:t<(zXA n k).length):((zXA n k).getD t []).length=k∧((zXA n k).getD t []).Pairwise (· < ·)∧∀x∈(zXA n k).getD t [],x<n:=by
 have hm:(zXA n k).getD t []∈lx n k n:=by
  rw [List.getD_eq_getElem?_getD,List.getElem?_eq_getElem ht];exact List.getElem_mem _
 obtain ⟨h1,h2,h3⟩:=(zBD n n k _ (Nat.le_refl _)).1 hm;exact ⟨h1,h2,fun x hx=>(h3 x hx).2⟩
theorem owns_le14 {B B':Nat} {w:World} {v:Value} {l:List Nat} (h:Ivs B w v l) (hb:B'≤B):Ivs B' w v l:=by
 obtain ⟨q1,q2 | ⟨g,cap,cur,q2,q3,q4⟩⟩:=h
 ·exact ⟨q1,.inl q2⟩
 ·exact ⟨q1,.inr ⟨g,cap,cur,q2,Nat.le_trans hb q3,q4⟩⟩
theorem owns_mono14 {B:Nat} {w:World} {v:Value} {l:List Nat} (h:Ivs B w v l):Ivs 0 w v l:=by
 obtain ⟨q1,q2 | ⟨g,cap,cur,q2,q3,q4⟩⟩:=h
 ·exact ⟨q1,.inl q2⟩
 ·exact ⟨q1,.inr ⟨g,cap,cur,q2,Nat.zero_le _,q4⟩⟩
def AtS (n k:Nat) (s:Nat×Nat) (x:Value) (X:World):Prop:=s.2<(zXA n k).length∧s.1≤X.heap.size∧Ivs 0 X x ((zXA n k).getD s.2 [])
def AtT (n k:Nat) (s:Nat×Nat) (x:Value) (X:World):Prop:=s.2<(zXA n k).length∧s.1≤X.heap.size∧Ivs s.1 X x ((zXA n k).getD s.2 [])
def SiH (J:Nat×Nat→World→Prop) (n k gs B bn bk gk:Nat) (s5:Value) (wr:World):Prop :=
 ∃t:Nat,s5=.bool (decide (t<(zXA n k).length))∧t≤(zXA n k).length∧gk=(zXA n k).length-t∧J (B,t) wr∧(t<(zXA n k).length→Cel wr gs 3 (wf k (nf ((zXA n k).getD t []))))∧wr.cell? ⟨bn,0,none⟩=some (.int .i64 (n:Int))∧wr.cell? ⟨bk,0,none⟩=some (.int .i64 (k:Int))∧B≤wr.heap.size
theorem zzC {g:Nat} {A B:World} (h:zLA (· = g) A B) {p:Addr} {v:Value} (hp:A.cell? p=some v) (hne:p.block≠g):B.cell? p=some v:=by
 obtain ⟨o,q1,q2⟩:=zbB hp;exact (World.cell?_of_block (h.block _ (Array.getElem?_eq_some_iff.1 q1).1 hne)).trans hp
theorem sets1_inF {S:Nat→Prop} {l nn bn bk n k:Nat} {W:World} (hnn:1≤nn) (hn:n≤64) (hk:k≤n) (J:Nat×Nat→World→Prop)
  (hcn:W.cell? ⟨bn,0,none⟩=some (.int .i64 (n:Int))) (hck:W.cell? ⟨bk,0,none⟩=some (.int .i64 (k:Int))) (hSn:¬S bn) (hSk:¬S bk)
  (hJb:∀s A B,J s A→Below A.heap.size A B→J s B) (hJs:∀s A B gs,J s A→W.heap.size≤gs→(0<s.2∧gs<s.1∧∃L,A.heap[gs]?=some (.cells L 3 (0,0)))→zLA (· = gs) A B→J s B) (h0:∀B,W.heap.size≤B→J (B,0) W) (hSB:∀b,S b→b<W.heap.size)
  (Jx:World→Prop) (hY:∀s x X,J s X→AtT n k s x X→(∃X0,J s X0∧Below X0.heap.size X0 X∧Ivs X0.heap.size X x ((zXA n k).getD s.2 []))→YieldAt Fence.wide (nn-1) Tryz.prog l #[x] X fun e Y=>(e=.returned (.bool true)∧J (s.1,s.2+1) Y∧KpL S s.1 X Y)∨(e=.returned (.bool false)∧Jx Y)) :
  CallsIn Fence.wide nn Tryz.prog 70 #[.func (.yield l) #[] #[],.pointer (some ⟨bn,0,none⟩),.pointer (some ⟨bk,0,none⟩)] W fun e Y=>(∃v,e=.returned v)∧((∃s,s.2=(zXA n k).length∧J s Y)∨Jx Y):=by
 have HFP:=hid (zsB (w:=W) (k:=k) (by omega));have HJB:=hid hJb;have HJS:=hid hJs;have H0:=hid h0;have HY:=hid hY;have HSB:=hid hSB;have HSN:=hid hSn;have HSK:=hid hSk;have hbnW:bn<W.heap.size:=by
  obtain ⟨o,q1,q2⟩:=zbB hcn;exact (Array.getElem?_eq_some_iff.1 q1).1
 have hbkW:bk<W.heap.size:=by
  obtain ⟨o,q1,q2⟩:=zbB hck;exact (Array.getElem?_eq_some_iff.1 q1).1
 have x0:=hcn;have x1:=hck;have q1:¬(64:Int)<(n:Int):=by omega
 have q2:¬(k:Int)<0:=by omega
 have q3:¬(n:Int)<(k:Int):=by omega
 have q1d:decide ((64:Int)<(n:Int))=false:=decide_eq_false q1;have q2d:decide ((k:Int)<0)=false:=decide_eq_false q2;have q3d:decide ((n:Int)<(k:Int))=false:=decide_eq_false q3;clear hJb hJs h0 hY hSB hSn hSk hcn hck;refine callsIn_of_wp Tryz.func70 rfl trivial ?_ rfl;simp only [Tryz.ntmps70,List.size_toArray,List.length_cons,List.length_nil,Nat.reduceAdd,Nat.reduceSub,Array.replicate_succ,Array.replicate_zero,List.push_toArray,List.append_toArray,List.nil_append,List.cons_append];gi_wp2_with fail;refine ⟨trivial,(callsIn_wide.2 HFP.out).mono ?_⟩;rintro e W2 ⟨rfl,hcel,b⟩;obtain ⟨gs,hgs⟩:∃gs,W.heap.size=gs:=⟨_,rfl⟩
 obtain ⟨B,hB⟩:∃B,W2.heap.size=B:=⟨_,rfl⟩
 have hgB:gs<B:=by
  have:=hcel.blk;omega
 have HI0:Hid (SiH J n k gs B bn bk (zXA n k).length (.bool true) W2):=by
  refine ⟨0,by rw [decide_eq_true (zaD hk).2],Nat.zero_le _,rfl,HJB.out _ _ _ (H0.out B (by rw [←hB];exact b.size)) b,fun _=>?_,cnow b x0,cnow b x1,by omega⟩;rw [(zaD hk).1,←hgs,zbA (G:=fun t=>(t:Int)) fun t ht=>by simp [nf,ht]];exact hcel
 have HGB:=hid hgB;have EGS:=hid hgs;rw [hgs];clear HFP hcel b x0 x1 hB hgs H0 q1d q2d q3d q1 q2 q3;gi_wp2_with fail
 gi_loopg [5] (zXA n k).length (fun gk s5 wr=>SiH J n k gs B bn bk gk s5 wr)
 case atStart=>exact HI0.out
 case round =>
  clear HI0;obtain ⟨t,rfl,htl,hgk,hj,hc,y0,y1,hBs⟩:=hrel;have JJ:=hid hj;have HG:=hid hgk;clear hj hgk
  by_cases hlt:t<(zXA n k).length
  ·obtain ⟨ll,hll⟩:∃ll,(zXA n k).getD t []=ll:=⟨_,rfl⟩
   obtain ⟨m1,m2,m3⟩:=zaF hlt;have CC:=hid (hc hlt);rw [hll] at CC m1 m2 m3;have HCL:=hid (clone_any CC.out m1 (by omega));have HLL:=hid hll;have HM1:=hid m1;have HM3:=hid m3;have HLT:=hid hlt;have HNX:=hid (sts_run hk hlt);rw [hll] at HNX;have Y0:=hid y0;have Y1:=hid y1;rw [decide_eq_true hlt];clear hc m1 m2 m3 hll y0 y1 hlt;gi_wp2_with fail;refine ⟨trivial,(callsIn_wide.2 HCL.out).mono ?_⟩;rintro e w2 ⟨v,rfl,hin,b⟩;have hy:=HY.out (B,t) v w2 (HJB.out _ _ _ JJ.out b) ⟨HLT.out,Nat.le_trans hBs b.size,by rw [HLL.out];exact owns_le14 hin hBs⟩ ⟨_,JJ.out,b,by rw [HLL.out];exact hin⟩;obtain ⟨fn,tmps,assign,body,hy,hR⟩:=hy;have CC2:=hid (CC.out.step b);have Y02:=hid (cnow b Y0.out);have Y12:=hid (cnow b Y1.out);have hsz:=b.size;clear HCL JJ b hin CC Y0 Y1;gi_wp2;refine hR.mono ?_;rintro e W4 (⟨rfl,hj4,hk4⟩ | ⟨rfl,hjx⟩)
   rotate_left
   ·have FIN:Hid ((∃v,Ending.returned (.tuple #[])=.returned v)∧((∃s,s.2=(zXA n k).length∧J s W4)∨Jx W4)):=⟨⟨_,rfl⟩,.inr hjx⟩
    clear hR hy hjx CC2 Y02 Y12;gi_wp2
    (try simp only [Exit.inBlock,Exit.then])
    exact bodyPost_ret (results_none rfl _ _ _) rfl FIN.out
   have hgW:=HGB.out;have CC4:Hid (Cel W4 gs 3 (wf k (nf ll))):=hk4.2 gs _ hgW (fun q=>by have:=HSB.out _ q;have:=EGS.out;omega) CC2.out rfl;have y0:=hk4.cell Y02.out (show bn<B by have:=EGS.out;omega) HSN.out;have y1:=hk4.cell Y12.out (show bk<B by have:=EGS.out;omega) HSK.out;have HST:=hid (step_any CC4.out HM1.out (by omega) hn (fun t ht=>HM3.out _ (zTA (by rw [HM1.out];exact ht))));have Y04:=hid y0;have Y14:=hid y1;have J4:=hid hj4;have hsz4:=hk4.1;clear hR hy hj4 hk4 CC2 Y02 Y12;gi_wp2_with fail;refine ⟨trivial,(callsIn_wide.2 HST.out).mono ?_⟩;rintro e w5 (⟨hnx,rfl,hw5⟩ | ⟨l',hnx,rfl,hc5,ht5⟩)
   ·rw [hw5]
    have hend:t+1=(zXA n k).length:=by
     have h1:=HNX.out;rw [hnx] at h1
     by_cases q:t+1<(zXA n k).length
     ·rw [if_pos q] at h1;cases h1
     ·have:=HLT.out;omega
    have HN1:Hid (SiH J n k gs B bn bk ((zXA n k).length-(t+1)) (.bool false) W4):=⟨t+1,by rw [decide_eq_false (by omega)],by omega,rfl,J4.out,fun q=>by omega,Y04.out,Y14.out,by omega⟩
    have HMM:Hid ((zXA n k).length-(t+1)<gk):=by unfold Hid;rw [HG.out];have:=HLT.out;omega
    clear HST hw5 hnx hend J4 y0 y1 Y04 Y14;gi_wp2;gi_roundg ((zXA n k).length-(t+1))
    case rel=>exact HN1.out
    case measure=>exact HMM.out
   ·have hmore:t+1<(zXA n k).length∧l'=(zXA n k).getD (t+1) []:=by
     have h1:=HNX.out;rw [hnx] at h1
     by_cases q:t+1<(zXA n k).length
     ·rw [if_pos q,Option.some.injEq] at h1;exact ⟨q,h1⟩
     ·rw [if_neg q] at h1;cases h1
    have HN1:Hid (SiH J n k gs B bn bk ((zXA n k).length-(t+1)) (.bool true) w5):=⟨t+1,by rw [decide_eq_true hmore.1],by omega,rfl,HJS.out _ _ _ gs J4.out (by rw [EGS.out];exact Nat.le_refl _) ⟨Nat.succ_pos t,HGB.out,_,CC4.out⟩ ht5,fun _=>by rw [←hmore.2];exact hc5,zzC ht5 Y04.out (by have:=EGS.out;show bn≠gs;omega),zzC ht5 Y14.out (by have:=EGS.out;show bk≠gs;omega),by have:=ht5.size;omega⟩
    have HMM:Hid ((zXA n k).length-(t+1)<gk):=by unfold Hid;rw [HG.out];have:=HLT.out;omega
    clear HST hc5 ht5 hnx hmore J4 y0 y1 Y04 Y14;gi_wp2;gi_roundg ((zXA n k).length-(t+1))
    case rel=>exact HN1.out
    case measure=>exact HMM.out
  ·rw [decide_eq_false hlt]
   obtain rfl:t=(zXA n k).length:=by omega
   have FIN:Hid ((∃v,Ending.returned (.tuple #[])=.returned v)∧((∃s,s.2=(zXA n k).length∧J s wr)∨Jx wr)):=⟨⟨_,rfl⟩,.inl ⟨(B,(zXA n k).length),rfl,JJ.out⟩⟩
   clear JJ HG hc y0 y1;gi_wp2;go_end0;exact FIN.out
theorem sets1_inL {S:Nat→Prop} {l nn bn bk n k:Nat} {W:World} (hnn:1≤nn) (hn:n≤64) (hk:k≤n) (J:Nat×Nat→World→Prop)
  (hcn:W.cell? ⟨bn,0,none⟩=some (.int .i64 (n:Int))) (hck:W.cell? ⟨bk,0,none⟩=some (.int .i64 (k:Int))) (hSn:¬S bn) (hSk:¬S bk)
  (hJb:∀s A B,J s A→Below A.heap.size A B→J s B) (hJs:∀s A B gs,J s A→W.heap.size≤gs→(0<s.2∧gs<s.1∧∃L,A.heap[gs]?=some (.cells L 3 (0,0)))→zLA (· = gs) A B→J s B) (h0:∀B,W.heap.size≤B→J (B,0) W) (hSB:∀b,S b→b<W.heap.size)
  (Jx:World→Prop) (hY:∀s x X,J s X→AtT n k s x X→YieldAt Fence.wide (nn-1) Tryz.prog l #[x] X fun e Y=>(e=.returned (.bool true)∧J (s.1,s.2+1) Y∧KpL S s.1 X Y)∨(e=.returned (.bool false)∧Jx Y)) :
  CallsIn Fence.wide nn Tryz.prog 70 #[.func (.yield l) #[] #[],.pointer (some ⟨bn,0,none⟩),.pointer (some ⟨bk,0,none⟩)] W fun e Y=>(∃v,e=.returned v)∧((∃s,s.2=(zXA n k).length∧J s Y)∨Jx Y) :=
 sets1_inF hnn hn hk J hcn hck hSn hSk hJb hJs h0 hSB Jx fun s x X h1 h2 _=>hY s x X h1 h2
theorem zEG {S:Nat→Prop} {l nn bn bk n k:Nat} {W:World} (hnn:1≤nn) (hn:n≤64) (hk:k≤n) (J:Nat×Nat→World→Prop)
  (hcn:W.cell? ⟨bn,0,none⟩=some (.int .i64 (n:Int))) (hck:W.cell? ⟨bk,0,none⟩=some (.int .i64 (k:Int))) (hSn:¬S bn) (hSk:¬S bk)
  (hJb:∀s A B,J s A→Below A.heap.size A B→J s B) (hJs:∀s A B gs,J s A→W.heap.size≤gs→(gs<s.1∧∃L,A.heap[gs]?=some (.cells L 3 (0,0)))→zLA (· = gs) A B→J s B) (h0:∀B,W.heap.size≤B→J (B,0) W) (hSB:∀b,S b→b<W.heap.size)
  (hY:∀s x X,J s X→AtS n k s x X→YieldAt Fence.wide (nn-1) Tryz.prog l #[x] X fun e Y=>e=.returned (.bool true)∧J (s.1,s.2+1) Y∧KpL S s.1 X Y) :
  CallsIn Fence.wide nn Tryz.prog 70 #[.func (.yield l) #[] #[],.pointer (some ⟨bn,0,none⟩),.pointer (some ⟨bk,0,none⟩)] W fun e Y=>(∃v,e=.returned v)∧∃s,s.2=(zXA n k).length∧J s Y:=by
 refine (sets1_inL hnn hn hk J hcn hck hSn hSk hJb (fun s A B gs h h1 h2 t=>hJs s A B gs h h1 h2.2 t) h0 hSB (fun _=>False) fun s x X h1 h2=>?_).mono fun e Y h=>⟨h.1,h.2.resolve_right id⟩
 obtain ⟨fn,tmps,assign,body,q1,q2⟩:=hY s x X h1 ⟨h2.1,h2.2.1,owns_mono14 h2.2.2⟩;exact ⟨fn,tmps,assign,body,q1,q2.mono fun e Y h=>.inl h⟩
end Go.Proofs.YtjnokjgbeploaaaGreat
