/-
 QLm6ToChkN9: Lm6, CrtPure, TailA, Crt6, CrtLPure, Fit8, Chain8, IsChain8, Bw8, TailX, Round8, Rf11, Pure9, St11, Ty9, Sh11, UnitA9, Wk9, Turn9, ChkN9, joined.
-/
import Derived.Test.YtbcgggadelnaaaaGreatQExt6
import Derived.Test.YtbcgggadelnaaaaGreatQZModToLess6
import Derived.Test.YtbcgggadelnaaaaGreatQZMetToGcd6
import Derived.Test.YtbcgggadelnaaaaGreatQFil9ToTail
import Derived.Test.YtbcgggadelnaaaaGreatQAlikeToShift
import Derived.Test.YtbcgggadelnaaaaGreatQZOnesToZCmp
import Derived.Test.YtbcgggadelnaaaaGreatQZStoreToLst9
import Derived.Deep.LoopGhost
import Derived.Test.YtbcgggadelnaaaaGreatQMulAllToOnes
import Derived.RangeFuncNested
import Derived.RangeFuncBound
import Derived.RangeFuncCalls
import Derived.RangeFuncLeaves
import Derived.RangeFuncBox
import Derived.Shelf.Abstract
import Derived.Shelf.RegionOpen
import Derived.WalkKit
import Derived.OwnWalkIn
import Derived.TacticsInMore
import Derived.LoopNIn
import Derived.LoopIn
import Derived.Test.YtbcgggadelnaaaaGreatQProd9ToOpenM9
import Derived.Test.YtbcgggadelnaaaaGreatQCat9
import Derived.Laws.OwnMore

set_option maxRecDepth 100000
set_option maxHeartbeats 6400000
set_option linter.unusedVariables false
set_option linter.unusedSimpArgs false
namespace Go.Proofs.YtbcgggadelnaaaaGreat
open Go.RowKit

section
variable {P : Program} {ops : Array Oper} {Q : Exit → Act → World → Prop} {md : Region.Mode} {S : World → Prop} {n : Nat}
end





open Go.RowKit Go.Shelf
attribute [local go_sem] Oper.semAt_some
end Go.Proofs.YtbcgggadelnaaaaGreat
namespace Go.Proofs.YtbcgggadelnaaaaGreat
open Go.RowKit
section
variable {P : Program} {ops : Array Oper} {Q : Exit → Act → World → Prop} {md : Region.Mode} {S : World → Prop} {X : List Nat}
def zkB (P : Program) (md : Region.Mode) (ops : Array Oper) (Q : Exit → Act → World → Prop) (S : World → Prop) (X : List Nat) : Nat → Array Bool → Act → World → Prop
 | 0,listed,a,w => Region.ready md ops listed = [] ∧ Q .normal a w
 | fuel + 1,listed,a,w =>
  (Region.ready md ops listed = [] → Q .normal a w) ∧
  ∀ i ∈ Region.ready md ops listed,wpOp P ops Q i (fun a' w' => (X.contains i = false → S w → S w') ∧ zkB P md ops Q S X fuel (listed.setIfInBounds i true) a' w') a w
theorem ztD : ∀ (fuel : Nat) (listed : Array Bool) (a : Act) (w : World),zkB P md ops Q S X fuel listed a w → wpAny P md ops Q fuel listed a w
 | 0,_,_,_,h => h
 | fuel + 1,_,_,_,h => ⟨h.1,fun i hi => wpOp_mono (fun a' w' h' => ztD fuel _ a' w' h'.2) (h.2 i hi)⟩
theorem zrC {S' : World → Prop} {i : Nat} {oi : Oper} {v : Value} (hi : ops[i]? = some oi) (hsel : ∀ (j : Nat) (o : Oper) cs b,ops[j]? = some o → o.op ≠ .select cs b)
  (hQ : ∀ c a w,Q (.panic c) (a.put oi.dst v) w → Q (.panic c) a w)
  (hX : ∀ (j : Nat) (w w' : World),(∀ oj,ops[j]? = some oj → ∀ e ∈ oj.after,Region.binds md e = true → e.on ≠ i) → ((X.contains j = false → S w → S w') → S' w → S' w')) :
  ∀ (fuel : Nat) (listed : Array Bool) (a : Act) (w : World),
   (∀ j oj,ops[j]? = some oj → j ≠ i → listed.getD j true = false → (∀ e ∈ oj.after,Region.binds md e = true → e.on ≠ i) → oi.apart ops oj = true) →
   i ∈ Region.ready md ops listed → YieldsIf P ops S' oi v a → S' w →
   zkB P md ops Q S X fuel (listed.setIfInBounds i true) (a.put oi.dst v) w → zkB P md ops Q S X (fuel + 1) listed a w := by
 intro fuel
 induction fuel with
 | zero =>
  intro listed a w _ hr hy hS H;refine ⟨fun h => (by rw [h] at hr;cases hr),fun j hj => ?_⟩
  by_cases hji : j = i
  ·subst hji;exact hy.wpOp hi hS ⟨fun _ h => h,H⟩
  ·have := ready_mono hj hji
   rw [H.1] at this;cases this
 | succ fuel ih =>
  intro listed a w hfree hr hy hS H;refine ⟨fun h => (by rw [h] at hr;cases hr),fun j hj => ?_⟩
  by_cases hji : j = i
  ·subst hji;exact hy.wpOp hi hS ⟨fun _ h => h,H⟩
  ·have h1 := H.2 j (ready_mono hj hji)
   obtain ⟨hjun,oj,hoj,hall⟩ := mem_ready.1 hj;have hnot : ∀ e ∈ oj.after,Region.binds md e = true → e.on ≠ i := fun e he hb heq => by
    have h1 := hall e he hb;have h0 := (mem_ready.1 hr).1;rw [heq] at h1;rcases Nat.lt_or_ge i listed.size with h' | h'
    ·simp [h'] at h0 h1;rw [h0] at h1;cases h1
    ·simp [Array.getElem?_eq_none h'] at h1
   have h2 := wpOp_putIf hoj (hfree j oj hoj hji hjun hnot) (fun cs b => hsel i oi cs b hi) (fun cs b => hsel j oj cs b hoj) hQ hy h1;have hfree' : ∀ k ok,ops[k]? = some ok → k ≠ i → (listed.setIfInBounds j true).getD k true = false →
     (∀ e ∈ ok.after,Region.binds md e = true → e.on ≠ i) → oi.apart ops ok = true := fun k ok hk hki hun hno => by
    refine hfree k ok hk hki ?_ hno
    by_cases hjk : j = k
    ·subst hjk;exact hjun
    ·rw [getD_set_ne true hjk] at hun;exact hun
   refine wpOp_mono (fun a' w' h3 => ⟨h3.2.1,ih (listed.setIfInBounds j true) a' w' hfree' (ready_mono hr (Ne.symm hji)) h3.1 (hX j w w' (fun o' ho' => by rw [hoj] at ho';cases ho';exact hnot) h3.2.1 hS) ?_⟩) h2;rw [Array.setIfInBounds_comm _ _ hji];exact h3.2.2
def zwG (md : Region.Mode) (ops : Array Oper) (X : List Nat) (i : Nat) : Bool :=
 X.all (fun j => match ops[j]? with
  | some oj => oj.after.toList.any (fun e => Region.binds md e && e.on == i)
  | none => false)
theorem zrA {i : Nat} {oi : Oper} {v : Value} {fuel : Nat} {listed : Array Bool} {a : Act} {w : World} (hi : ops[i]? = some oi)
  (hok : (Region.noSelect ops && Region.free md ops listed i && (Region.ready md ops listed).contains i && zwG md ops X i) = true)
  (hQ : ∀ c a w,Q (.panic c) (a.put oi.dst v) w → Q (.panic c) a w) (hy : YieldsIf P ops S oi v a) (hS : S w)
  (h : zkB P md ops Q S X fuel (listed.setIfInBounds i true) (a.put oi.dst v) w) : zkB P md ops Q S X (fuel + 1) listed a w := by
 simp only [Bool.and_eq_true] at hok;obtain ⟨⟨⟨h1,h2⟩,h3⟩,h4⟩ := hok;refine zrC hi (Region.noSelect_spec h1) hQ (fun j w w' hn hk hs => hk ?_ hs) fuel listed a w (Region.free_spec hi h2) (by simpa using h3) hy hS h;cases hc : X.contains j with
 | false => rfl
 | true =>
  unfold zwG at h4;have h5 := List.all_eq_true.1 h4 j (by simpa using hc);cases ho : ops[j]? with
  | none => rw [ho] at h5;cases h5
  | some oj =>
   rw [ho] at h5;obtain ⟨e,he,hb⟩ := List.any_eq_true.1 h5;simp only [Bool.and_eq_true,beq_iff_eq] at hb;exact absurd hb.2 (hn oj ho e (Array.mem_toList_iff.1 he) hb.1)
theorem zJA {i : Nat} {oi : Oper} {v : Value} {fuel : Nat} {listed : Array Bool} {a : Act} {w : World} (hi : ops[i]? = some oi)
  (hok : (Region.noSelect ops && Region.free md ops listed i && (Region.ready md ops listed).contains i) = true)
  (hQ : ∀ c a w,Q (.panic c) (a.put oi.dst v) w → Q (.panic c) a w) (hy : YieldsIf P ops (fun _ => True) oi v a)
  (h : zkB P md ops Q S X fuel (listed.setIfInBounds i true) (a.put oi.dst v) w) : zkB P md ops Q S X (fuel + 1) listed a w := by
 simp only [Bool.and_eq_true] at hok;obtain ⟨⟨h1,h2⟩,h3⟩ := hok;exact zrC (S' := fun _ => True) hi (Region.noSelect_spec h1) hQ (fun _ _ _ _ _ _ => trivial) fuel listed a w (Region.free_spec hi h2) (by simpa using h3) hy trivial h
theorem zvB {i : Nat} {o : Oper} {fuel : Nat} {listed : Array Bool} {a : Act} {w : World} (hr : Region.ready md ops listed = [i]) (ho : ops[i]? = some o)
  (h : ∀ K' : Act → World → Prop,Shut (∀ a' w',(X.contains i = false → S w → S w') → zkB P md ops Q S X fuel (listed.setIfInBounds i true) a' w' → K' a' w') → if Region.wanted o (yielded ops a.tmps) = true then Oper.wp P o a w K' Q else K' (a.put o.dst undef) w) :
  zkB P md ops Q S X (fuel + 1) listed a w := by
 refine ⟨fun h0 => (by rw [hr] at h0;cases h0),fun j hj => ?_⟩;rw [hr] at hj;obtain rfl := List.mem_singleton.1 hj;exact wpOp_step ho (fun K' hK => h K' (fun a' w' hS hW => hK a' w' ⟨hS,hW⟩))
theorem zKD {listed : Array Bool} {a : Act} {w : World} (hr : Region.ready md ops listed = []) (h : Q .normal a w) :
  ∀ fuel,zkB P md ops Q S X fuel listed a w
 | 0 => ⟨hr,h⟩
 | _ + 1 => ⟨fun _ => h,by rw [hr];simp⟩
theorem zJD (S : World → Prop) (X : List Nat) {id : Nat} {a : Act} {w : World} (hm : P.follows .mixedOrders = true)
  (h : zkB P .any ops Q S X ops.size (Array.replicate ops.size false) a w.drew) : (Code.region id ops true).wp P Q a w :=
 wp_region_any hm (ztD _ _ _ _ h)
end
open Go.RowKit Go.Shelf
theorem rows_in {n : Nat} {P : Program} {row : String} {args : Array Value} {w : World} {R : Value → World → Prop} (l : Nat) (h : Rows P row args w R) : RowsIn (Fence.wide.inRound l) n P row args w R :=
 fun c cs _ => let ⟨v,w',r,s⟩ := h c cs;⟨v,w',r,stepsIn_wide.2 s⟩
theorem op_round {P : Program} {l n : Nat} {o : Oper} {a : Act} {w : World} {K : Act → World → Prop} {Q : Exit → Act → World → Prop} (hno : ∀ c,o.op ≠ .defer c) (h : o.wp P a w K Q) : o.wpIn (Fence.wide.inRound l) n P a w K Q := by
 refine ⟨fun _ _ => trivial,?_⟩;rw [Fence.inRound_round,Oper.semAt_some l a.eval o hno];unfold Oper.wp at h;generalize (execOp a.eval o).run P w = r at *;cases r with
 | ok x w' =>
  cases x <;> simp only [Oper.upon,Oper.uponIn] at h ⊢
  all_goals first
   | exact h
   | exact ⟨fun e => (by cases e),CallsIn.inRound l (callsIn_wide.2 h)⟩
   | exact ⟨fun e => (by cases e),rows_in l h⟩
   | exact h.elim
 | halt x w' => cases x <;> simp only [Oper.upon,Oper.uponIn] at h ⊢ <;> first | exact h | exact h.elim
theorem zAC {A B : World} (h : Below A.heap.size A B) : A.grownBy B none := ⟨h.os,h.tape,h.output,h.size,fun k hk _ => h.block k hk⟩
theorem rangeW {σ α : Type} {P : Program} {n : Nat} {g : Operand} {ps : Array Tmp} {assign body : Code} {Q : Exit → Act → World → Prop} {a : Act} {w : World}
  (h1 : 1 ≤ n) {gf : Nat} {lb : Array Value} (hg : a.eval g = .func (.func gf) #[] lb) (eg : ∀ args w,(callFunc gf args).run P w = .ok (.enter gf args) w)
  (enc : α → Array Value) (hps : ∀ x,(enc x).size = ps.size)
  (J : σ → World → Prop) (hJ : OwnFrom w.heap.size J) (At : σ → α → World → Prop) (hAt : ∀ s x,OwnFrom w.heap.size (fun (_ : Unit) W => At s x W)) (nx : σ → α → σ)
  (Kp : σ → World → World → Prop) (hKt : ∀ {s : σ} {A B C : World},Kp s A B → Kp s B C → Kp s A C) (hKb : ∀ (s : σ) (W : World) (l : Nat) (o o' : Obj),w.heap.size ≤ l → W.heap[l]? = some o → o.isCells = false → Kp s W (W.putObj l o'))
  (Ini Fin : σ → Prop) (h0 : ∀ s,Ini s → J s w)
  (hit : ∀ (l : Nat) (J' : σ → World → Prop) (W : World),Below w.heap.size w W → (∀ s X,J' s X → J s X) → (∀ s A B,J' s A → Below A.heap.size A B → J' s B) → (∀ s,Ini s → J' s W) →
   (∀ s x X,J' s X → At s x X → YieldAt Fence.wide (n - 1 - 1) P l (enc x) X fun e Y => e = .returned (.bool true) ∧ J' (nx s x) Y ∧ Kp s X Y) →
   CallsIn Fence.wide (n - 1) P gf (#[.func (.yield l) #[] #[]] ++ lb) W fun e Y => (∃ v,e = .returned v) ∧ ∃ s,Fin s ∧ J' s Y)
  (a₁ : α → Act) (hassign : ∀ (l : Nat) (x : α) (W : World) (K : Act → World → Prop),K (a₁ x) W →
   assign.wpIn (Fence.wide.inRound l) (n - 1 - 1) P (Exit.then K (fun _ _ _ => False)) { tmps := (ps.zip (enc x)).foldl (fun t (p,v) => t.setIfInBounds p v) a.tmps,defers := [] } W)
  (hbody : ∀ (l : Nat) (s : σ) (x : α) (W : World),J s W → At s x W → body.wpIn (Fence.wide.inRound l) (n - 1 - 1) P (fun e _ Y => e = .normal ∧ KeepsFrom w.heap.size W Y ∧ J (nx s x) Y ∧ Kp s W Y) (a₁ x) W)
  (hdone : ∀ (D : Nat) (s : σ) (W : World),w.heap.size ≤ D → Fin s → J s W → W.heap[D]? = some (.deferred (some [])) → Q .normal { a with defers := { target := .collected D,args := #[] } :: a.defers } W) :
  (Code.rangeFunc g ps assign body).wpIn Fence.wide n P Q a w := by
 refine wpIn_rangeFunc fun fn hfn => ?_
 obtain ⟨R,hR⟩ : ∃ R : LoopState → Option Code → Loop,R = fun st pe => { state := st,pending := pe,fn,tmps := a.tmps,params := ps,assign,body,defers := w.heap.size } := ⟨_,rfl⟩
 obtain ⟨W1,hW1⟩ : ∃ W1,(w.alloc (.deferred (some []))).alloc (.loop (R .ready none)) = W1 := ⟨_,rfl⟩
 have bw : Below w.heap.size w W1 := by rw [← hW1];exact (((Below.refl _ w).alloc (Nat.le_refl _) _).alloc (by simp) _)
 have hL : W1.heap[w.heap.size + 1]? = some (.loop (R .ready none)) := by
  rw [← hW1];have := World.alloc_heap_new (w.alloc (.deferred (some []))) (.loop (R .ready none))
  rwa [World.size_alloc] at this
 have hD : W1.heap[w.heap.size]? = some (.deferred (some [])) := by
  rw [← hW1];exact (Below.heap_alloc _ _ _ (by simp)).trans (World.alloc_heap_new w _)
 refine ⟨w.heap.size + 1,[{ target := .collected w.heap.size,args := #[] }],W1,{ target := .fn (.func gf) lb,args := #[.func (.yield (w.heap.size + 1)) #[] #[]] },W1,gf,#[.func (.yield (w.heap.size + 1)) #[] #[]] ++ lb,W1,?_,?_,fun _ _ => trivial,?_,fun _ => h1,?_⟩
 ·rw [← hW1,hR];exact run_enterLoop_outer _ _ _ _ _
 ·simp only [resolve,hg]
  simp [go_sem]
 ·simp [invoke,go_sem,eg]
 ·refine (hit (w.heap.size + 1) (fun s W => J s W ∧ W.heap[w.heap.size + 1]? = some (.loop (R .ready none)) ∧ W.heap[w.heap.size]? = some (.deferred (some []))) W1 bw (fun s X h => h.1)
   (fun s A B h b => ⟨hJ s A B none h.1 (zAC b) (fun r e => by cases e),(b.block _ (Array.getElem?_eq_some_iff.1 h.2.1).1).trans h.2.1,(b.block _ (Array.getElem?_eq_some_iff.1 h.2.2).1).trans h.2.2⟩)
   (fun s hs => ⟨hJ s w W1 none (h0 s hs) (zAC bw) (fun r e => by cases e),hL,hD⟩) ?_).mono ?_
  ·rintro s x X ⟨hj,hl,hk⟩ hat
   have hlt : w.heap.size + 1 < X.heap.size := (Array.getElem?_eq_some_iff.1 hl).1;have hy := run_yield (P := P) (args := enc x) hl (by rw [hR];exact hps x);rw [hR] at hy;refine ⟨fn,_,assign,body,hy,roundIn_of_wpIn hfn (hassign _ x X _ ?_)⟩;clear hy;refine ⟨_,run_beginRound hl (by rw [hR]),?_⟩;obtain ⟨X2,hX2⟩ : ∃ X2,X.putObj (w.heap.size + 1) (.loop { R .ready none with state := .busy }) = X2 := ⟨_,rfl⟩
   have hl2 : X2.heap[w.heap.size + 1]? = some (.loop { R .ready none with state := .busy }) := by rw [← hX2];exact World.putObj_heap_same hlt
   have hk2 : X2.heap[w.heap.size]? = some (.deferred (some [])) := by rw [← hX2];exact (World.putObj_heap_other (by omega)).trans hk
   have hj2 : J s X2 := by rw [← hX2];exact hJ.putObj _ hj (by omega) hl rfl
   have ha2 : At s x X2 := by rw [← hX2];exact (hAt s x).putObj (s := ()) _ hat (by omega) hl rfl
   have hp2 : Kp s X X2 := by rw [← hX2];exact hKb s _ _ _ _ (by omega) hl rfl
   rw [hX2];refine wpIn_mono (hbody _ s x X2 hj2 ha2) ?_;rintro e a3 X3 ⟨rfl,q1,q2,q3⟩;have hl3 := q1.same _ _ (by omega) hl2 rfl;have hr := run_endRound (P := P) none hl3;refine ⟨_,_,hr,rfl,⟨hJ.putObj _ q2 (by omega) hl3 rfl,?_,?_⟩,hKt (hKt hp2 q3) (hKb s _ _ _ _ (by omega) hl3 rfl)⟩
   ·have := World.putObj_heap_same (w := X3) (r := w.heap.size + 1) (o := .loop { { R .ready none with state := .busy } with state := .ready,pending := none }) (Array.getElem?_eq_some_iff.1 hl3).1
    rw [hR] at this ⊢;exact this
   ·exact (World.putObj_heap_other (by omega)).trans (q1.same _ _ (Nat.le_refl _) hk2 rfl)
  ·rintro e Y ⟨⟨v,rfl⟩,s,hf,hj,hl,hk⟩
   have hr := run_endLoop (P := P) hl (by rw [hR];simp);refine ⟨_,_,hr,?_⟩;rw [hR];exact hdone _ s _ (Nat.le_refl _) hf (hJ.putObj _ hj (by omega) hl rfl) ((World.putObj_heap_other (by omega)).trans hk)
end Go.Proofs.YtbcgggadelnaaaaGreat
namespace Go.Proofs.YtbcgggadelnaaaaGreat

def zXB (zss : List (List Int)) (i : Nat) : List Int := zss.getD i []
def Wide (c : Nat) (m : List (List Int)) : Prop := ∀ r ∈ m,r.length = c
theorem Wide.at {c i : Nat} {m : List (List Int)} (h : Wide c m) (hi : i < m.length) : (zXB m i).length = c := by
 have e : zXB m i = m[i] := by simp [zXB,hi]
 rw [e];exact h _ (List.getElem_mem hi)
theorem rows_wide {r c : Nat} {zs : List Int} (hl : zs.length = r * c) : Wide c (rowsL r c zs) := rows_len hl
theorem zpB {r c : Nat} {zs : List Int} : (rowsL r c zs).length = r := by simp [rowsL]
open Go.RowKit
def Ty (T : TypeId) (w w' : World) : Prop := w.heap.size ≤ w'.heap.size ∧ ∀ (b : Nat) (L : Array Value) (T' : TypeId) (fr : Nat × Nat),w.heap[b]? = some (.cells L T' fr) → T' ≠ T → w'.heap[b]? = some (.cells L T' fr)
theorem Ty.trans {T : TypeId} {a b c : World} (h : Ty T a b) (h' : Ty T b c) : Ty T a c := ⟨Nat.le_trans h.1 h'.1,fun g L T' fr e hne => h'.2 g L T' fr (h.2 g L T' fr e hne) hne⟩
theorem Ty.set {T : TypeId} {w : World} {g i : Nat} {L : List Value} {u : Value} (d : Cel w g T L) : Ty T w (w.setCell ⟨g,i,none⟩ u) := by
 refine ⟨by simp,fun b L' T' fr e hne => ?_⟩;have hb : b ≠ g := fun q => by
  subst q;have := e.symm.trans (show w.heap[b]? = _ from d);simp at this;exact hne this.2.1
 exact (Below.heap_setCell w _ u b (fun q => hb (by simpa using q))).trans e
theorem Ty.grown {T : TypeId} {w w' : World} {B size n : Nat} {v : Value} {xs : List Value} (h : w.ownsRow B T size v n xs) (hg : w.grownBy w' v.ownBlock) : Ty T w w' := by
 refine ⟨hg.size,fun b L' T' fr e hne => (hg.block b (Array.getElem?_eq_some_iff.1 e).1 (fun q => ?_)).trans e⟩;obtain ⟨_,⟨q1,_⟩ | ⟨g,cap,cur,q1,_,q3,_⟩⟩ := h
 ·rw [q1] at q;cases q
 ·rw [q1] at q
  simp only [Value.ownBlock,Option.some.injEq] at q;subst q;have := e.symm.trans q3;simp at this;exact hne this.2.1
theorem Zm.ty {T : TypeId} {B k : Nat} {w w' : World} {v : Value} {z : Int} (h : Zm B w v z k) (ht : Ty T w w') (hT : 58 ≠ T) : Zm B w' v z k := by
 obtain ⟨n1,zs,a,c,e,hm,rest⟩ := h;refine ⟨n1,zs,a,c,e,?_,rest⟩;obtain ⟨hw,h | ⟨g,r,cap,h1,h2,h3,h4,h5,h6⟩⟩ := hm
 ·exact ⟨hw,.inl h⟩
 ·exact ⟨hw,.inr ⟨g,r,cap,h1,h2,h3,h4,h5,ht.2 g _ _ _ h6 hT⟩⟩
def Zms (w : World) (ps : List (Value × Value)) (zs : List Int) (k : Nat) : Prop := ps.length = zs.length ∧ ∀ (j : Nat) (p : Value × Value) (z : Int),ps[j]? = some p → zs[j]? = some z → Zm 0 w (.agg #[p.1,p.2]) z k
theorem Zms.ty {T : TypeId} {w w' : World} {ps : List (Value × Value)} {zs : List Int} {k : Nat} (h : Zms w ps zs k) (ht : Ty T w w') (hT : 58 ≠ T) : Zms w' ps zs k := ⟨h.1,fun j p z hp hz => (h.2 j p z hp hz).ty ht hT⟩
theorem Zms.now {w w' : World} {ps : List (Value × Value)} {zs : List Int} {k : Nat} (h : Zms w ps zs k) (hb : Below w.heap.size w w') : Zms w' ps zs k := ⟨h.1,fun j p z hp hz => (h.2 j p z hp hz).now hb⟩
theorem Zms.zcs {w : World} {ps : List (Value × Value)} {zs : List Int} {k : Nat} (h : Zms w ps zs k) : Zcs w ps zs k := ⟨h.1,fun j p z hp hz => (h.2 j p z hp hz).zc⟩
def FilM (wx : World) (g n i : Nat) (F : Nat → Int) (k : Nat) : Prop := ∃ ps,Arr wx g ps ∧ ps.length = n ∧ ∀ (j : Nat) (p : Value × Value),j < i → ps[j]? = some p → Zm 0 wx (.agg #[p.1,p.2]) (F j) k
theorem FilM.start {w : World} {g n : Nat} (h : Arr w g (List.replicate n zBB)) (F : Nat → Int) (k : Nat) : FilM w g n 0 F k := ⟨_,h,by simp,fun j p hj => by omega⟩
theorem FilM.step {w w' : World} {g n i : Nat} {F : Nat → Int} {k : Nat} (h : FilM w g n i F k) (hb : Below w.heap.size w w') : FilM w' g n i F k := by
 obtain ⟨ps,h1,h2,h3⟩ := h;exact ⟨ps,h1.step hb,h2,fun j p hj hp => (h3 j p hj hp).now hb⟩
theorem FilM.put {w : World} {g n i : Nat} {F : Nat → Int} {k : Nat} {x y : Value} (h : FilM w g n i F k) (hi : i < n) (hz : Zm 0 w (.agg #[x,y]) (F i) k) : FilM ((w.setCell ⟨g,i * 2,none⟩ x).setCell ⟨g,i * 2 + 1,none⟩ y) g n (i + 1) F k := by
 obtain ⟨ps,h1,h2,h3⟩ := h;have ht : Ty 51 w ((w.setCell ⟨g,i * 2,none⟩ x).setCell ⟨g,i * 2 + 1,none⟩ y) := (Ty.set h1.1).trans (Ty.set (h1.1.set _ _));refine ⟨ps.set i (x,y),h1.put (by omega) hz.zi.isI,by simpa using h2,fun j p hj hp => ?_⟩
 by_cases q : j = i
 ·subst q
  rw [List.getElem?_set_self (by omega),Option.some.injEq] at hp;subst hp;exact hz.ty ht (by decide)
 ·rw [List.getElem?_set_ne (by omega)] at hp
  exact (h3 j p (by omega) hp).ty ht (by decide)
theorem FilM.cells {w : World} {g n i j : Nat} {F : Nat → Int} {k : Nat} (h : FilM w g n i F k) (hj : j < n) : ∃ m a l c,w.cell? ⟨g,j * 2,none⟩ = some (.bool m) ∧ w.cell? ⟨g,j * 2 + 1,none⟩ = some (.slice a l c) ∧ w.frozen? ⟨g,j * 2,none⟩ = false ∧ w.frozen? ⟨g,j * 2 + 1,none⟩ = false := by
 obtain ⟨ps,h1,h2,h3⟩ := h;have hp : ps[j]? = some (ps[j]'(by omega)) := List.getElem?_eq_getElem (by omega);obtain ⟨m,a,l,c,e⟩ := h1.2 _ (List.getElem_mem (l := ps) (n := j) (by omega));have q := h1.at hp;rw [e] at q;exact ⟨m,a,l,c,q.1,q.2,h1.1.fz _,h1.1.fz _⟩
def rowv (c g : Nat) : Value := .slice (some ⟨g,0,none⟩) c c
def Ones (gs : List Nat) : Prop := ∀ (i j g : Nat),gs[i]? = some g → gs[j]? = some g → i = j


abbrev zXE : Value := .func (.func 21) #[] #[]
theorem eachLeast_any {w : World} {B k : Nat} {v : Value} {ps : List (Value × Value)} {zs : List Int} (hv : Prs B w v ps) (hz : Zis w ps zs k) :
  Calls Tryz.prog 97 #[v,zXE] w (zLH w zs k) := by
 have V0 := hid (zqD hv hz);have HMP : Hid (zs = (List.range zs.length).map fun j => zs.getD j 0) := by
  unfold Hid
  apply List.ext_getElem
  ·simp
  ·intro j h1 h2
   simp [h1]
 obtain ⟨a0,c0,rfl,hc0,hn0,hf0⟩ := V0.out.form9;obtain ⟨n,hn⟩ : ∃ n,zs.length = n := ⟨_,rfl⟩
 rw [hn] at V0 hc0 hn0 HMP ⊢;have HN := hid hn;have F0 := hid hf0;clear hv hz hf0 hn;go_enter Tryz.func97,Tryz.ntmps97;go_wp2_with (at_make;refine zOA _ rfl _ _ rfl _ _ n n rfl rfl rfl rfl (Nat.le_refl _) (by omega) ?_)
 intro w1 hrow hb1 hsz1;have H0 : Hid (zeE w w.heap.size n (fun j => zs.getD j 0) k n (.int .i64 0) w1) := ⟨0,rfl,Nat.zero_le _,by omega,Fil.start hrow _ _,hb1⟩
 clear hrow hb1 hsz1;go_wp2_with fail
 go_loopg [13] n (fun gk s13 wx => zeE w w.heap.size n (fun j => zs.getD j 0) k gk s13 wx)
 case atStart => exact H0.out
 case round =>
  clear H0;obtain ⟨i,rfl,hin,hg,hfil,hG⟩ := hrel;have FI := hid hfil;have G := hid hG;have HG := hid hg;clear hfil hG hg
  by_cases hlt : i < n
  ·have hlt' : (i : Int) < (n : Int) := by omega
   obtain ⟨b1,o1,rfl⟩ := F0.out (fun e => by have := HN.out;rw [e] at this;simp at this;omega);obtain ⟨nf,xf,adf,qf,k0,k1,zf⟩ := (V0.out.now G.out).at9 (i := i) (by rw [HN.out];exact hlt);rw [zcB] at zf;obtain ⟨V1,hV⟩ : ∃ V1,wr.alloc (duo (.bool nf) (.slice adf xf.length qf)) = V1 := ⟨_,rfl⟩
   obtain ⟨b,sz1⟩ := alo1 wr (duo (.bool nf) (.slice adf xf.length qf));rw [hV] at b sz1;have PN : Hid (Duo V1 wr.heap.size (.bool nf) (.slice adf xf.length qf)) := by unfold Hid;rw [← hV];exact Duo.new wr _ _
   have HS := hid (zmC (zf.now b));have FI0 := hid (FI.out.step b);have G0 := hid (below_step G.out b);have n0 := PN.out.c0;have n1 := PN.out.c1;rw [← hV] at n0 n1;have EV := hid hV;have hw := zVA (i := i) (by omega);clear zf b sz1 hV PN FI G;go_wp2_with fail;rw [EV.out];refine HS.out.mono ?_;rintro e w1 ⟨r,rfl,m1,b⟩;have FI1 := hid (FI0.out.step b);have G1 := hid (below_step G0.out b);have M1 := hid m1.zc;obtain ⟨nr,xr,ar,cr,rfl⟩ := m1.parts;obtain ⟨m0,am,lm,cm,e0,e1,e2,e3⟩ := FI1.out.cells hlt;have HN1 : Hid (zeE w w.heap.size n (fun j => zs.getD j 0) k (n - (i + 1)) (.int .i64 ((i + 1 : Nat) : Int)) ((w1.setCell ⟨w.heap.size,i * 2,none⟩ (.bool nr)).setCell ⟨w.heap.size,i * 2 + 1,none⟩ (.slice ar xr.length cr))) :=
    ⟨i + 1,rfl,by omega,rfl,FI1.out.put hlt M1.out,bset (bset G1.out (Nat.le_refl _)) (Nat.le_refl _)⟩
   have HMM : Hid (n - (i + 1) < gk) := by unfold Hid;rw [HG.out];omega
   clear HS FI0 G0 HG FI1 G1 M1 m1 b k0 k1 n0 n1 EV;go_wp2_with fail;go_roundg (n - (i + 1))
   case rel => exact HN1.out
   case measure => exact HMM.out
  ·have hlt' : ¬ (i : Int) < (n : Int) := by omega
   obtain rfl : i = n := by omega
   obtain ⟨ps,p1,p2⟩ := FI.out.done (B := w.heap.size) (Nat.le_refl _) hn0;rw [← HMP.out] at p2;have FIN : Hid (zLH w zs k (.returned (.slice (some ⟨w.heap.size,0,none⟩) i i)) wr) := ⟨_,ps,rfl,p1,p2,G.out⟩
   clear FI G HG p1 p2;go_wp2;go_ret;exact FIN.out
theorem zRC {w W0 : World} {o1 : List Value} (hW : (w.alloc (.cells o1.toArray 24)).alloc mbox = W0) :
  Cel W0 w.heap.size 24 o1 ∧ Cel W0 (w.heap.size + 1) 24 [.int .i64 0,.int .i64 0,.slice none 0 0] := by
 refine ⟨?_,?_⟩
 ·rw [← hW]
  exact (Cel.new w 24 o1).step ((Below.refl _ _).alloc (Nat.le_refl _) _)
 ·rw [← hW]
  have := Cel.new (w.alloc (.cells o1.toArray 24)) 24 [.int .i64 0,.int .i64 0,.slice none 0 0]
  simpa using this
theorem isShape_raw {w : World} {r c : Int} : Calls Tryz.prog 56 #[.int .i64 r,.int .i64 c] w fun e w' => e = .returned (.bool (decide (0 ≤ r ∧ 0 ≤ c ∧ r ≤ 64 ∧ c ≤ 64))) ∧ w' = w := by
 by_cases h1 : 0 ≤ min r c
 ·by_cases h2 : max r c ≤ 64
  ·have e : decide (0 ≤ r ∧ 0 ≤ c ∧ r ≤ 64 ∧ c ≤ 64) = true := by rw [decide_eq_true_eq];omega
   rw [e];clear e;go_enter Tryz.func56,Tryz.ntmps56;go_wp2;go_ret;exact ⟨rfl,rfl⟩
  ·have e : decide (0 ≤ r ∧ 0 ≤ c ∧ r ≤ 64 ∧ c ≤ 64) = false := by rw [decide_eq_false_iff_not];omega
   rw [e];clear e;go_enter Tryz.func56,Tryz.ntmps56;go_wp2;go_ret;exact ⟨rfl,rfl⟩
 ·have e : decide (0 ≤ r ∧ 0 ≤ c ∧ r ≤ 64 ∧ c ≤ 64) = false := by rw [decide_eq_false_iff_not];omega
  rw [e];clear e;go_enter Tryz.func56,Tryz.ntmps56;go_wp2;go_ret;exact ⟨rfl,rfl⟩
theorem check_no {w : World} {r c : Int} {a : Option Addr} {l cap : Nat} (h : ¬ Snd r c l) : Calls Tryz.prog 25 #[.agg #[.int .i64 r,.int .i64 c,.slice a l cap]] w fun e w' => e = .returned (.int .i64 1) ∧ Below w.heap.size w w' := by
 obtain ⟨W0,hW⟩ : ∃ W0,w.alloc (.cells #[.int .i64 r,.int .i64 c,.slice a l cap] 24) = W0 := ⟨_,rfl⟩
 obtain ⟨b0,sz0⟩ := alo1 w (.cells #[.int .i64 r,.int .i64 c,.slice a l cap] 24);rw [hW] at b0 sz0;have P1 : Hid (Cel W0 w.heap.size 24 [.int .i64 r,.int .i64 c,.slice a l cap]) := by unfold Hid;rw [← hW];exact Cel.new w _ _
 have x0 := P1.out.at (i := 0) rfl;have x1 := P1.out.at (i := 1) rfl;have x2 := P1.out.at (i := 2) rfl;rw [← hW] at x0 x1 x2;have HS := hid (isShape_raw (w := W0) (r := r) (c := c));have G0 := hid b0;have EW := hid hW;clear b0 sz0 hW P1
 by_cases hs : 0 ≤ r ∧ 0 ≤ c ∧ r ≤ 64 ∧ c ≤ 64
 ·have e : decide (0 ≤ r ∧ 0 ≤ c ∧ r ≤ 64 ∧ c ≤ 64) = true := decide_eq_true hs
  rw [e] at HS;have hm : 0 ≤ r * c ∧ r * c ≤ 64 * 64 := ⟨Int.mul_nonneg hs.1 hs.2.1,Int.mul_le_mul hs.2.2.1 hs.2.2.2 hs.2.1 (by omega)⟩
  have hw : IntKind.i64.wrap (r * c) = r * c := by rw [zfA] <;> omega
  obtain ⟨q,hq⟩ : ∃ q,r * c = q := ⟨_,rfl⟩
  have hne : ¬ ((l : Int) = q) := fun h2 => h ⟨hs.1,hs.2.2.1,hs.2.1,hs.2.2.2,h2.trans hq.symm⟩
  replace hw : IntKind.i64.wrap (r * c) = q := hw.trans hq;have hw2 := hw;rw [IntKind.wrap_i64] at hw2;have q0 : ((l : Int) != q) = true := by simpa using hne
  clear h hs e hm hq hne;go_enter Tryz.func25,Tryz.ntmps25;go_wp2_with fail;rw [EW.out];refine HS.out.mono ?_;rintro e w1 ⟨rfl,rfl⟩;rw [EW.out] at x0 x1 x2;go_wp2;go_ret;exact ⟨rfl,G0.out⟩
 ·have e : decide (0 ≤ r ∧ 0 ≤ c ∧ r ≤ 64 ∧ c ≤ 64) = false := decide_eq_false hs
  rw [e] at HS;clear h hs e;go_enter Tryz.func25,Tryz.ntmps25;go_wp2_with fail;rw [EW.out];refine HS.out.mono ?_;rintro e w1 ⟨rfl,rfl⟩;go_wp2;go_ret;exact ⟨rfl,G0.out⟩
end Go.Proofs.YtbcgggadelnaaaaGreat
