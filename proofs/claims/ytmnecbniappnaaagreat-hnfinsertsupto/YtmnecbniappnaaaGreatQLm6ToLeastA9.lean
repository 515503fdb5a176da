/-
 QLm6ToLeastA9: Lm6, CrtPure, TailA, Crt6, CrtLPure, Fit8, Chain8, IsChain8, Bw8, TailX, Round8, Rf11, Pure9, St11, Ty9, Sh11, UnitA9, Wk9, Turn9, ChkN9, LeastA9, joined.
-/
import Derived.Test.YtmnecbniappnaaaGreatQExt6
import Derived.Test.YtmnecbniappnaaaGreatQZModToLess6
import Derived.Test.YtmnecbniappnaaaGreatQZMetToGcd6
import Derived.Test.YtmnecbniappnaaaGreatQFil9ToRowsOf9
import Derived.Test.YtmnecbniappnaaaGreatQAlikeToShift
import Derived.Test.YtmnecbniappnaaaGreatQZOnesToZCmp
import Derived.Test.YtmnecbniappnaaaGreatQZStoreToLst9
import Derived.Deep.LoopGhost
import Derived.Test.YtmnecbniappnaaaGreatQMulAllToOnes
import Derived.RangeFuncNested
import Derived.RangeFuncBound
import Derived.RangeFuncCalls
import Derived.RangeFuncLeaves
import Derived.RangeFuncBox
import Derived.Shelf.Abstract
import Derived.Shelf.RegionOpen
import Derived.WalkKit
import Derived.OwnWalkIn
import Derived.TacticsInMore
import Derived.LoopNIn
import Derived.LoopIn
import Derived.Test.YtmnecbniappnaaaGreatQCat9ToOpenM9
import Derived.Laws.OwnMore

set_option maxRecDepth 100000
set_option maxHeartbeats 6400000
set_option linter.unusedVariables false
set_option linter.unusedSimpArgs false
namespace Go.Proofs.YtmnecbniappnaaaGreat
open Go.RowKit

section
variable {P : Program} {ops : Array Oper} {Q : Exit → Act → World → Prop} {md : Region.Mode} {S : World → Prop} {n : Nat}
end





open Go.RowKit Go.Shelf
attribute [local go_sem] Oper.semAt_some
end Go.Proofs.YtmnecbniappnaaaGreat
namespace Go.Proofs.YtmnecbniappnaaaGreat
open Go.RowKit
section
variable {P : Program} {ops : Array Oper} {Q : Exit → Act → World → Prop} {md : Region.Mode} {S : World → Prop} {X : List Nat}
end
open Go.RowKit Go.Shelf
theorem rows_in {n : Nat} {P : Program} {row : String} {args : Array Value} {w : World} {R : Value → World → Prop} (l : Nat) (h : Rows P row args w R) : RowsIn (Fence.wide.inRound l) n P row args w R :=
 fun c cs _ => let ⟨v,w',r,s⟩ := h c cs;⟨v,w',r,stepsIn_wide.2 s⟩
theorem op_round {P : Program} {l n : Nat} {o : Oper} {a : Act} {w : World} {K : Act → World → Prop} {Q : Exit → Act → World → Prop} (hno : ∀ c,o.op ≠ .defer c) (h : o.wp P a w K Q) : o.wpIn (Fence.wide.inRound l) n P a w K Q := by
 refine ⟨fun _ _ => trivial,?_⟩;rw [Fence.inRound_round,Oper.semAt_some l a.eval o hno];unfold Oper.wp at h;generalize (execOp a.eval o).run P w = r at *;cases r with
 | ok x w' =>
  cases x <;> simp only [Oper.upon,Oper.uponIn] at h ⊢
  all_goals first
   | exact h
   | exact ⟨fun e => (by cases e),CallsIn.inRound l (callsIn_wide.2 h)⟩
   | exact ⟨fun e => (by cases e),rows_in l h⟩
   | exact h.elim
 | halt x w' => cases x <;> simp only [Oper.upon,Oper.uponIn] at h ⊢ <;> first | exact h | exact h.elim
theorem zFC {A B : World} (h : Below A.heap.size A B) : A.grownBy B none := ⟨h.os,h.tape,h.output,h.size,fun k hk _ => h.block k hk⟩
theorem rangeW {σ α : Type} {P : Program} {n : Nat} {g : Operand} {ps : Array Tmp} {assign body : Code} {Q : Exit → Act → World → Prop} {a : Act} {w : World}
  (h1 : 1 ≤ n) {gf : Nat} {lb : Array Value} (hg : a.eval g = .func (.func gf) #[] lb) (eg : ∀ args w,(callFunc gf args).run P w = .ok (.enter gf args) w)
  (enc : α → Array Value) (hps : ∀ x,(enc x).size = ps.size)
  (J : σ → World → Prop) (hJ : OwnFrom w.heap.size J) (At : σ → α → World → Prop) (hAt : ∀ s x,OwnFrom w.heap.size (fun (_ : Unit) W => At s x W)) (nx : σ → α → σ)
  (Kp : σ → World → World → Prop) (hKt : ∀ {s : σ} {A B C : World},Kp s A B → Kp s B C → Kp s A C) (hKb : ∀ (s : σ) (W : World) (l : Nat) (o o' : Obj),w.heap.size ≤ l → W.heap[l]? = some o → o.isCells = false → Kp s W (W.putObj l o'))
  (Ini Fin : σ → Prop) (h0 : ∀ s,Ini s → J s w)
  (hit : ∀ (l : Nat) (J' : σ → World → Prop) (W : World),Below w.heap.size w W → (∀ s X,J' s X → J s X) → (∀ s A B,J' s A → Below A.heap.size A B → J' s B) → (∀ s,Ini s → J' s W) →
   (∀ s x X,J' s X → At s x X → YieldAt Fence.wide (n - 1 - 1) P l (enc x) X fun e Y => e = .returned (.bool true) ∧ J' (nx s x) Y ∧ Kp s X Y) →
   CallsIn Fence.wide (n - 1) P gf (#[.func (.yield l) #[] #[]] ++ lb) W fun e Y => (∃ v,e = .returned v) ∧ ∃ s,Fin s ∧ J' s Y)
  (a₁ : α → Act) (hassign : ∀ (l : Nat) (x : α) (W : World) (K : Act → World → Prop),K (a₁ x) W →
   assign.wpIn (Fence.wide.inRound l) (n - 1 - 1) P (Exit.then K (fun _ _ _ => False)) { tmps := (ps.zip (enc x)).foldl (fun t (p,v) => t.setIfInBounds p v) a.tmps,defers := [] } W)
  (hbody : ∀ (l : Nat) (s : σ) (x : α) (W : World),J s W → At s x W → body.wpIn (Fence.wide.inRound l) (n - 1 - 1) P (fun e _ Y => e = .normal ∧ KeepsFrom w.heap.size W Y ∧ J (nx s x) Y ∧ Kp s W Y) (a₁ x) W)
  (hdone : ∀ (D : Nat) (s : σ) (W : World),w.heap.size ≤ D → Fin s → J s W → W.heap[D]? = some (.deferred (some [])) → Q .normal { a with defers := { target := .collected D,args := #[] } :: a.defers } W) :
  (Code.rangeFunc g ps assign body).wpIn Fence.wide n P Q a w := by
 refine wpIn_rangeFunc fun fn hfn => ?_
 obtain ⟨R,hR⟩ : ∃ R : LoopState → Option Code → Loop,R = fun st pe => { state := st,pending := pe,fn,tmps := a.tmps,params := ps,assign,body,defers := w.heap.size } := ⟨_,rfl⟩
 obtain ⟨W1,hW1⟩ : ∃ W1,(w.alloc (.deferred (some []))).alloc (.loop (R .ready none)) = W1 := ⟨_,rfl⟩
 have bw : Below w.heap.size w W1 := by rw [← hW1];exact (((Below.refl _ w).alloc (Nat.le_refl _) _).alloc (by simp) _)
 have hL : W1.heap[w.heap.size + 1]? = some (.loop (R .ready none)) := by
  rw [← hW1];have := World.alloc_heap_new (w.alloc (.deferred (some []))) (.loop (R .ready none))
  rwa [World.size_alloc] at this
 have hD : W1.heap[w.heap.size]? = some (.deferred (some [])) := by
  rw [← hW1];exact (Below.heap_alloc _ _ _ (by simp)).trans (World.alloc_heap_new w _)
 refine ⟨w.heap.size + 1,[{ target := .collected w.heap.size,args := #[] }],W1,{ target := .fn (.func gf) lb,args := #[.func (.yield (w.heap.size + 1)) #[] #[]] },W1,gf,#[.func (.yield (w.heap.size + 1)) #[] #[]] ++ lb,W1,?_,?_,fun _ _ => trivial,?_,fun _ => h1,?_⟩
 ·rw [← hW1,hR];exact run_enterLoop_outer _ _ _ _ _
 ·simp only [resolve,hg]
  simp [go_sem]
 ·simp [invoke,go_sem,eg]
 ·refine (hit (w.heap.size + 1) (fun s W => J s W ∧ W.heap[w.heap.size + 1]? = some (.loop (R .ready none)) ∧ W.heap[w.heap.size]? = some (.deferred (some []))) W1 bw (fun s X h => h.1)
   (fun s A B h b => ⟨hJ s A B none h.1 (zFC b) (fun r e => by cases e),(b.block _ (Array.getElem?_eq_some_iff.1 h.2.1).1).trans h.2.1,(b.block _ (Array.getElem?_eq_some_iff.1 h.2.2).1).trans h.2.2⟩)
   (fun s hs => ⟨hJ s w W1 none (h0 s hs) (zFC bw) (fun r e => by cases e),hL,hD⟩) ?_).mono ?_
  ·rintro s x X ⟨hj,hl,hk⟩ hat
   have hlt : w.heap.size + 1 < X.heap.size := (Array.getElem?_eq_some_iff.1 hl).1;have hy := run_yield (P := P) (args := enc x) hl (by rw [hR];exact hps x);rw [hR] at hy;refine ⟨fn,_,assign,body,hy,roundIn_of_wpIn hfn (hassign _ x X _ ?_)⟩;clear hy;refine ⟨_,run_beginRound hl (by rw [hR]),?_⟩;obtain ⟨X2,hX2⟩ : ∃ X2,X.putObj (w.heap.size + 1) (.loop { R .ready none with state := .busy }) = X2 := ⟨_,rfl⟩
   have hl2 : X2.heap[w.heap.size + 1]? = some (.loop { R .ready none with state := .busy }) := by rw [← hX2];exact World.putObj_heap_same hlt
   have hk2 : X2.heap[w.heap.size]? = some (.deferred (some [])) := by rw [← hX2];exact (World.putObj_heap_other (by omega)).trans hk
   have hj2 : J s X2 := by rw [← hX2];exact hJ.putObj _ hj (by omega) hl rfl
   have ha2 : At s x X2 := by rw [← hX2];exact (hAt s x).putObj (s := ()) _ hat (by omega) hl rfl
   have hp2 : Kp s X X2 := by rw [← hX2];exact hKb s _ _ _ _ (by omega) hl rfl
   rw [hX2];refine wpIn_mono (hbody _ s x X2 hj2 ha2) ?_;rintro e a3 X3 ⟨rfl,q1,q2,q3⟩;have hl3 := q1.same _ _ (by omega) hl2 rfl;have hr := run_endRound (P := P) none hl3;refine ⟨_,_,hr,rfl,⟨hJ.putObj _ q2 (by omega) hl3 rfl,?_,?_⟩,hKt (hKt hp2 q3) (hKb s _ _ _ _ (by omega) hl3 rfl)⟩
   ·have := World.putObj_heap_same (w := X3) (r := w.heap.size + 1) (o := .loop { { R .ready none with state := .busy } with state := .ready,pending := none }) (Array.getElem?_eq_some_iff.1 hl3).1
    rw [hR] at this ⊢;exact this
   ·exact (World.putObj_heap_other (by omega)).trans (q1.same _ _ (Nat.le_refl _) hk2 rfl)
  ·rintro e Y ⟨⟨v,rfl⟩,s,hf,hj,hl,hk⟩
   have hr := run_endLoop (P := P) hl (by rw [hR];simp);refine ⟨_,_,hr,?_⟩;rw [hR];exact hdone _ s _ (Nat.le_refl _) hf (hJ.putObj _ hj (by omega) hl rfl) ((World.putObj_heap_other (by omega)).trans hk)
end Go.Proofs.YtmnecbniappnaaaGreat
namespace Go.Proofs.YtmnecbniappnaaaGreat

def zgB (zss : List (List Int)) (i : Nat) : List Int := zss.getD i []
def Wide (c : Nat) (m : List (List Int)) : Prop := ∀ r ∈ m,r.length = c
theorem Wide.at {c i : Nat} {m : List (List Int)} (h : Wide c m) (hi : i < m.length) : (zgB m i).length = c := by
 have e : zgB m i = m[i] := by simp [zgB,hi]
 rw [e];exact h _ (List.getElem_mem hi)
theorem rows_wide {r c : Nat} {zs : List Int} (hl : zs.length = r * c) : Wide c (rowsL r c zs) := rows_len hl
theorem zbB {r c : Nat} {zs : List Int} : (rowsL r c zs).length = r := by simp [rowsL]
open Go.RowKit
def Ty (T : TypeId) (w w' : World) : Prop := w.heap.size ≤ w'.heap.size ∧ ∀ (b : Nat) (L : Array Value) (T' : TypeId) (fr : Nat × Nat),w.heap[b]? = some (.cells L T' fr) → T' ≠ T → w'.heap[b]? = some (.cells L T' fr)
theorem Ty.of {T : TypeId} {w w' : World} (h : Below w.heap.size w w') : Ty T w w' := ⟨h.size,fun b L T' fr e _ => (h.block b (Array.getElem?_eq_some_iff.1 e).1).trans e⟩
theorem Ty.trans {T : TypeId} {a b c : World} (h : Ty T a b) (h' : Ty T b c) : Ty T a c := ⟨Nat.le_trans h.1 h'.1,fun g L T' fr e hne => h'.2 g L T' fr (h.2 g L T' fr e hne) hne⟩
theorem Ty.set {T : TypeId} {w : World} {g i : Nat} {L : List Value} {u : Value} (d : Cel w g T L) : Ty T w (w.setCell ⟨g,i,none⟩ u) := by
 refine ⟨by simp,fun b L' T' fr e hne => ?_⟩;have hb : b ≠ g := fun q => by
  subst q;have := e.symm.trans (show w.heap[b]? = _ from d);simp at this;exact hne this.2.1
 exact (Below.heap_setCell w _ u b (fun q => hb (by simpa using q))).trans e
theorem Ty.grown {T : TypeId} {w w' : World} {B size n : Nat} {v : Value} {xs : List Value} (h : w.ownsRow B T size v n xs) (hg : w.grownBy w' v.ownBlock) : Ty T w w' := by
 refine ⟨hg.size,fun b L' T' fr e hne => (hg.block b (Array.getElem?_eq_some_iff.1 e).1 (fun q => ?_)).trans e⟩;obtain ⟨_,⟨q1,_⟩ | ⟨g,cap,cur,q1,_,q3,_⟩⟩ := h
 ·rw [q1] at q;cases q
 ·rw [q1] at q
  simp only [Value.ownBlock,Option.some.injEq] at q;subst q;have := e.symm.trans q3;simp at this;exact hne this.2.1
theorem Zm.ty {T : TypeId} {B k : Nat} {w w' : World} {v : Value} {z : Int} (h : Zm B w v z k) (ht : Ty T w w') (hT : 42 ≠ T) : Zm B w' v z k := by
 obtain ⟨n1,zs,a,c,e,hm,rest⟩ := h;refine ⟨n1,zs,a,c,e,?_,rest⟩;obtain ⟨hw,h | ⟨g,r,cap,h1,h2,h3,h4,h5,h6⟩⟩ := hm
 ·exact ⟨hw,.inl h⟩
 ·exact ⟨hw,.inr ⟨g,r,cap,h1,h2,h3,h4,h5,ht.2 g _ _ _ h6 hT⟩⟩
def PrsT (w : World) (v : Value) (ps : List (Value × Value)) : Prop := Prs 0 w v ps ∧ ∀ (b off l c : Nat),v = .slice (some ⟨b,off,none⟩) l c → ∃ (L : Array Value) (fr : Nat × Nat),w.heap[b]? = some (.cells L 40 fr)
theorem Arr.prsT {w : World} {g : Nat} {ps : List (Value × Value)} (h : Arr w g ps) (hl : ps.length ≤ 1048576) : PrsT w (.slice (some ⟨g,0,none⟩) ps.length ps.length) ps := by
 refine ⟨h.prs (Nat.zero_le _) hl (Nat.le_refl _),fun b off l c e => ?_⟩;simp only [Value.slice.injEq,Option.some.injEq,Addr.mk.injEq] at e;obtain ⟨⟨rfl,-,-⟩,-,-⟩ := e;exact ⟨_,_,h.1⟩
def Zms (w : World) (ps : List (Value × Value)) (zs : List Int) (k : Nat) : Prop := ps.length = zs.length ∧ ∀ (j : Nat) (p : Value × Value) (z : Int),ps[j]? = some p → zs[j]? = some z → Zm 0 w (.agg #[p.1,p.2]) z k
theorem Zms.ty {T : TypeId} {w w' : World} {ps : List (Value × Value)} {zs : List Int} {k : Nat} (h : Zms w ps zs k) (ht : Ty T w w') (hT : 42 ≠ T) : Zms w' ps zs k := ⟨h.1,fun j p z hp hz => (h.2 j p z hp hz).ty ht hT⟩
theorem Zms.now {w w' : World} {ps : List (Value × Value)} {zs : List Int} {k : Nat} (h : Zms w ps zs k) (hb : Below w.heap.size w w') : Zms w' ps zs k := ⟨h.1,fun j p z hp hz => (h.2 j p z hp hz).now hb⟩
theorem Zms.zcs {w : World} {ps : List (Value × Value)} {zs : List Int} {k : Nat} (h : Zms w ps zs k) : Zcs w ps zs k := ⟨h.1,fun j p z hp hz => (h.2 j p z hp hz).zc⟩
def FilM (wx : World) (g n i : Nat) (F : Nat → Int) (k : Nat) : Prop := ∃ ps,Arr wx g ps ∧ ps.length = n ∧ ∀ (j : Nat) (p : Value × Value),j < i → ps[j]? = some p → Zm 0 wx (.agg #[p.1,p.2]) (F j) k
theorem FilM.start {w : World} {g n : Nat} (h : Arr w g (List.replicate n zfF)) (F : Nat → Int) (k : Nat) : FilM w g n 0 F k := ⟨_,h,by simp,fun j p hj => by omega⟩
theorem FilM.step {w w' : World} {g n i : Nat} {F : Nat → Int} {k : Nat} (h : FilM w g n i F k) (hb : Below w.heap.size w w') : FilM w' g n i F k := by
 obtain ⟨ps,h1,h2,h3⟩ := h;exact ⟨ps,h1.step hb,h2,fun j p hj hp => (h3 j p hj hp).now hb⟩
theorem FilM.put {w : World} {g n i : Nat} {F : Nat → Int} {k : Nat} {x y : Value} (h : FilM w g n i F k) (hi : i < n) (hz : Zm 0 w (.agg #[x,y]) (F i) k) : FilM ((w.setCell ⟨g,i * 2,none⟩ x).setCell ⟨g,i * 2 + 1,none⟩ y) g n (i + 1) F k := by
 obtain ⟨ps,h1,h2,h3⟩ := h;have ht : Ty 40 w ((w.setCell ⟨g,i * 2,none⟩ x).setCell ⟨g,i * 2 + 1,none⟩ y) := (Ty.set h1.1).trans (Ty.set (h1.1.set _ _));refine ⟨ps.set i (x,y),h1.put (by omega) hz.zi.isI,by simpa using h2,fun j p hj hp => ?_⟩
 by_cases q : j = i
 ·subst q
  rw [List.getElem?_set_self (by omega),Option.some.injEq] at hp;subst hp;exact hz.ty ht (by decide)
 ·rw [List.getElem?_set_ne (by omega)] at hp
  exact (h3 j p (by omega) hp).ty ht (by decide)
theorem FilM.cells {w : World} {g n i j : Nat} {F : Nat → Int} {k : Nat} (h : FilM w g n i F k) (hj : j < n) : ∃ m a l c,w.cell? ⟨g,j * 2,none⟩ = some (.bool m) ∧ w.cell? ⟨g,j * 2 + 1,none⟩ = some (.slice a l c) ∧ w.frozen? ⟨g,j * 2,none⟩ = false ∧ w.frozen? ⟨g,j * 2 + 1,none⟩ = false := by
 obtain ⟨ps,h1,h2,h3⟩ := h;have hp : ps[j]? = some (ps[j]'(by omega)) := List.getElem?_eq_getElem (by omega);obtain ⟨m,a,l,c,e⟩ := h1.2 _ (List.getElem_mem (l := ps) (n := j) (by omega));have q := h1.at hp;rw [e] at q;exact ⟨m,a,l,c,q.1,q.2,h1.1.fz _,h1.1.fz _⟩
def rowv (c g : Nat) : Value := .slice (some ⟨g,0,none⟩) c c
def Ones (gs : List Nat) : Prop := ∀ (i j g : Nat),gs[i]? = some g → gs[j]? = some g → i = j

theorem Cel.away3 {w : World} {b b' : Nat} {T : TypeId} {L : List Value} (h : Cel w b T L) (hne : b' ≠ b) (y0 y1 y2 : Value) : Cel (Go.Proofs.YtmnecbniappnaaaGreat.put3 w b' y0 y1 y2) b T L := ((h.ne hne).ne hne).ne hne
abbrev zwE : Value := .func (.func 33) #[] #[]
theorem eachLeast_any {w : World} {B k : Nat} {v : Value} {ps : List (Value × Value)} {zs : List Int} (hv : Prs B w v ps) (hz : Zis w ps zs k) :
  Calls Tryz.prog 54 #[v,zwE] w (zBI w zs k) := by
 have V0 := hid (zcG hv hz);have HMP : Hid (zs = (List.range zs.length).map fun j => zs.getD j 0) := by
  unfold Hid
  apply List.ext_getElem
  ·simp
  ·intro j h1 h2
   simp [h1]
 obtain ⟨a0,c0,rfl,hc0,hn0,hf0⟩ := V0.out.form9;obtain ⟨n,hn⟩ : ∃ n,zs.length = n := ⟨_,rfl⟩
 rw [hn] at V0 hc0 hn0 HMP ⊢;have HN := hid hn;have F0 := hid hf0;clear hv hz hf0 hn;go_enter Tryz.func54,Tryz.ntmps54;go_wp2_with (at_make;refine zcA _ rfl _ _ rfl _ _ n n rfl rfl rfl rfl (Nat.le_refl _) (by omega) ?_)
 intro w1 hrow hb1 hsz1;have H0 : Hid (zYG w w.heap.size n (fun j => zs.getD j 0) k n (.int .i64 0) w1) := ⟨0,rfl,Nat.zero_le _,by omega,Fil.start hrow _ _,hb1⟩
 clear hrow hb1 hsz1;go_wp2_with fail
 go_loopg [13] n (fun gk s13 wx => zYG w w.heap.size n (fun j => zs.getD j 0) k gk s13 wx)
 case atStart => exact H0.out
 case round =>
  clear H0;obtain ⟨i,rfl,hin,hg,hfil,hG⟩ := hrel;have FI := hid hfil;have G := hid hG;have HG := hid hg;clear hfil hG hg
  by_cases hlt : i < n
  ·have hlt' : (i : Int) < (n : Int) := by omega
   obtain ⟨b1,o1,rfl⟩ := F0.out (fun e => by have := HN.out;rw [e] at this;simp at this;omega);obtain ⟨nf,xf,adf,qf,k0,k1,zf⟩ := (V0.out.now G.out).at9 (i := i) (by rw [HN.out];exact hlt);rw [zvE] at zf;obtain ⟨V1,hV⟩ : ∃ V1,wr.alloc (duo (.bool nf) (.slice adf xf.length qf)) = V1 := ⟨_,rfl⟩
   obtain ⟨b,sz1⟩ := alo1 wr (duo (.bool nf) (.slice adf xf.length qf));rw [hV] at b sz1;have PN : Hid (Duo V1 wr.heap.size (.bool nf) (.slice adf xf.length qf)) := by unfold Hid;rw [← hV];exact Duo.new wr _ _
   have HS := hid (zqE (zf.now b));have FI0 := hid (FI.out.step b);have G0 := hid (below_step G.out b);have n0 := PN.out.c0;have n1 := PN.out.c1;rw [← hV] at n0 n1;have EV := hid hV;have hw := zVA (i := i) (by omega);clear zf b sz1 hV PN FI G;go_wp2_with fail;rw [EV.out];refine HS.out.mono ?_;rintro e w1 ⟨r,rfl,m1,b⟩;have FI1 := hid (FI0.out.step b);have G1 := hid (below_step G0.out b);have M1 := hid m1.zc;obtain ⟨nr,xr,ar,cr,rfl⟩ := m1.parts;obtain ⟨m0,am,lm,cm,e0,e1,e2,e3⟩ := FI1.out.cells hlt;have HN1 : Hid (zYG w w.heap.size n (fun j => zs.getD j 0) k (n - (i + 1)) (.int .i64 ((i + 1 : Nat) : Int)) ((w1.setCell ⟨w.heap.size,i * 2,none⟩ (.bool nr)).setCell ⟨w.heap.size,i * 2 + 1,none⟩ (.slice ar xr.length cr))) :=
    ⟨i + 1,rfl,by omega,rfl,FI1.out.put hlt M1.out,bset (bset G1.out (Nat.le_refl _)) (Nat.le_refl _)⟩
   have HMM : Hid (n - (i + 1) < gk) := by unfold Hid;rw [HG.out];omega
   clear HS FI0 G0 HG FI1 G1 M1 m1 b k0 k1 n0 n1 EV;go_wp2_with fail;go_roundg (n - (i + 1))
   case rel => exact HN1.out
   case measure => exact HMM.out
  ·have hlt' : ¬ (i : Int) < (n : Int) := by omega
   obtain rfl : i = n := by omega
   obtain ⟨ps,p1,p2⟩ := FI.out.done (B := w.heap.size) (Nat.le_refl _) hn0;rw [← HMP.out] at p2;have FIN : Hid (zBI w zs k (.returned (.slice (some ⟨w.heap.size,0,none⟩) i i)) wr) := ⟨_,ps,rfl,p1,p2,G.out⟩
   clear FI G HG p1 p2;go_wp2;go_ret;exact FIN.out
theorem zaD {w W0 : World} {o1 : List Value} (hW : (w.alloc (.cells o1.toArray 24)).alloc mbox = W0) :
  Cel W0 w.heap.size 24 o1 ∧ Cel W0 (w.heap.size + 1) 24 [.int .i64 0,.int .i64 0,.slice none 0 0] := by
 refine ⟨?_,?_⟩
 ·rw [← hW]
  exact (Cel.new w 24 o1).step ((Below.refl _ _).alloc (Nat.le_refl _) _)
 ·rw [← hW]
  have := Cel.new (w.alloc (.cells o1.toArray 24)) 24 [.int .i64 0,.int .i64 0,.slice none 0 0]
  simpa using this

theorem Fil.doneA {w : World} {g n : Nat} {F : Nat → Int} {k : Nat} (h : Fil w g n n F k) : ∃ ps,Arr w g ps ∧ ps.length = n ∧ Zcs w ps ((List.range n).map F) k := by
 obtain ⟨ps,h1,rfl,h3⟩ := h;refine ⟨ps,h1,rfl,by simp,fun j p z hp hz => ?_⟩;have hj : j < ps.length := (List.getElem?_eq_some_iff.1 hp).1;rw [List.getElem?_map,List.getElem?_range hj,Option.map_some,Option.some.injEq] at hz;subst hz;exact h3 j p hj hp
def ztF (w : World) (zs : List Int) (k : Nat) (e : Ending) (w' : World) : Prop := ∃ g n ps,e = .returned (.slice (some ⟨g,0,none⟩) n n) ∧ w.heap.size ≤ g ∧ ps.length = n ∧ Arr w' g ps ∧ Zcs w' ps zs k ∧ Below w.heap.size w w'
def zCI (w : World) (r c : Nat) (zs : List Int) (k : Nat) (e : Ending) (w' : World) : Prop := ∃ g n ps,e = .returned (matv r c (.slice (some ⟨g,0,none⟩) n n)) ∧ w.heap.size ≤ g ∧ ps.length = n ∧ Arr w' g ps ∧ Zcs w' ps zs k ∧ Below w.heap.size w w'
def zUH (w : World) (r c : Nat) (zs : List Int) (k : Nat) (e : Ending) (w' : World) : Prop := ∃ g n ps,e = .returned (.tuple #[matv r c (.slice (some ⟨g,0,none⟩) n n),.int .i64 0]) ∧ w.heap.size ≤ g ∧ ps.length = n ∧ Arr w' g ps ∧ Zcs w' ps zs k ∧ Below w.heap.size w w'
theorem eachLeastA_any {w : World} {B k : Nat} {v : Value} {ps : List (Value × Value)} {zs : List Int} (hv : Prs B w v ps) (hz : Zis w ps zs k) :
  Calls Tryz.prog 54 #[v,zwE] w (ztF w zs k) := by
 have V0 := hid (zcG hv hz);have HMP : Hid (zs = (List.range zs.length).map fun j => zs.getD j 0) := by
  unfold Hid
  apply List.ext_getElem
  ·simp
  ·intro j h1 h2
   simp [h1]
 obtain ⟨a0,c0,rfl,hc0,hn0,hf0⟩ := V0.out.form9;obtain ⟨n,hn⟩ : ∃ n,zs.length = n := ⟨_,rfl⟩
 rw [hn] at V0 hc0 hn0 HMP ⊢;have HN := hid hn;have F0 := hid hf0;clear hv hz hf0 hn;go_enter Tryz.func54,Tryz.ntmps54;go_wp2_with (at_make;refine zcA _ rfl _ _ rfl _ _ n n rfl rfl rfl rfl (Nat.le_refl _) (by omega) ?_)
 intro w1 hrow hb1 hsz1;have H0 : Hid (zYG w w.heap.size n (fun j => zs.getD j 0) k n (.int .i64 0) w1) := ⟨0,rfl,Nat.zero_le _,by omega,Fil.start hrow _ _,hb1⟩
 clear hrow hb1 hsz1;go_wp2_with fail
 go_loopg [13] n (fun gk s13 wx => zYG w w.heap.size n (fun j => zs.getD j 0) k gk s13 wx)
 case atStart => exact H0.out
 case round =>
  clear H0;obtain ⟨i,rfl,hin,hg,hfil,hG⟩ := hrel;have FI := hid hfil;have G := hid hG;have HG := hid hg;clear hfil hG hg
  by_cases hlt : i < n
  ·have hlt' : (i : Int) < (n : Int) := by omega
   obtain ⟨b1,o1,rfl⟩ := F0.out (fun e => by have := HN.out;rw [e] at this;simp at this;omega);obtain ⟨nf,xf,adf,qf,k0,k1,zf⟩ := (V0.out.now G.out).at9 (i := i) (by rw [HN.out];exact hlt);rw [zvE] at zf;obtain ⟨V1,hV⟩ : ∃ V1,wr.alloc (duo (.bool nf) (.slice adf xf.length qf)) = V1 := ⟨_,rfl⟩
   obtain ⟨b,sz1⟩ := alo1 wr (duo (.bool nf) (.slice adf xf.length qf));rw [hV] at b sz1;have PN : Hid (Duo V1 wr.heap.size (.bool nf) (.slice adf xf.length qf)) := by unfold Hid;rw [← hV];exact Duo.new wr _ _
   have HS := hid (zqE (zf.now b));have FI0 := hid (FI.out.step b);have G0 := hid (below_step G.out b);have n0 := PN.out.c0;have n1 := PN.out.c1;rw [← hV] at n0 n1;have EV := hid hV;have hw := zVA (i := i) (by omega);clear zf b sz1 hV PN FI G;go_wp2_with fail;rw [EV.out];refine HS.out.mono ?_;rintro e w1 ⟨r,rfl,m1,b⟩;have FI1 := hid (FI0.out.step b);have G1 := hid (below_step G0.out b);have M1 := hid m1.zc;obtain ⟨nr,xr,ar,cr,rfl⟩ := m1.parts;obtain ⟨m0,am,lm,cm,e0,e1,e2,e3⟩ := FI1.out.cells hlt;have HN1 : Hid (zYG w w.heap.size n (fun j => zs.getD j 0) k (n - (i + 1)) (.int .i64 ((i + 1 : Nat) : Int)) ((w1.setCell ⟨w.heap.size,i * 2,none⟩ (.bool nr)).setCell ⟨w.heap.size,i * 2 + 1,none⟩ (.slice ar xr.length cr))) :=
    ⟨i + 1,rfl,by omega,rfl,FI1.out.put hlt M1.out,bset (bset G1.out (Nat.le_refl _)) (Nat.le_refl _)⟩
   have HMM : Hid (n - (i + 1) < gk) := by unfold Hid;rw [HG.out];omega
   clear HS FI0 G0 HG FI1 G1 M1 m1 b k0 k1 n0 n1 EV;go_wp2_with fail;go_roundg (n - (i + 1))
   case rel => exact HN1.out
   case measure => exact HMM.out
  ·have hlt' : ¬ (i : Int) < (n : Int) := by omega
   obtain rfl : i = n := by omega
   obtain ⟨ps,p1,pl,p2⟩ := FI.out.doneA;rw [← HMP.out] at p2;have FIN : Hid (ztF w zs k (.returned (.slice (some ⟨w.heap.size,0,none⟩) i i)) wr) := ⟨_,_,ps,rfl,Nat.le_refl _,pl,p1,p2,G.out⟩
   clear FI G HG p1 p2 pl;go_wp2;go_ret;exact FIN.out
theorem least9A_any {w : World} {v : Value} {r c : Nat} {zs : List Int} {k : Nat} (h : Mx w v r c zs k) : Calls Tryz.prog 79 #[v] w (zCI w r c zs k) := by
 obtain ⟨at_,ps,rfl,p1,p2,p3,hr,hc⟩ := h;obtain ⟨W0,hW⟩ : ∃ W0,(w.alloc (matO r c at_)).alloc mbox = W0 := ⟨_,rfl⟩
 obtain ⟨b0,sz0⟩ := zYA w (matO r c at_) mbox;rw [hW] at b0 sz0;obtain ⟨pa,pr⟩ := zaD (o1 := matc r c at_) hW;have PR := hid pr;have HS : Hid (∀ w',Below W0.heap.size W0 w' → Calls Tryz.prog 54 #[at_,zwE] w' (ztF w' zs k)) := fun w' hb => eachLeastA_any ((p1.now b0).now hb) ((p2.now b0).now hb)
 have HL := hid p3;obtain ⟨aa,ca,rfl,-,-,-,-⟩ := p1.form;generalize ps.length = la at *;have k0 := pa.at (i := 0) rfl;have k1 := pa.at (i := 1) rfl;have k2 := pa.at (i := 2) rfl;have G := hid b0;have EW := hid hW;have SZ := hid sz0;clear p1 p2 p3 b0 sz0 hW pa pr;go_enter Tryz.func79,Tryz.ntmps79;go_wp2_with fail;rw [EW.out];clear EW;have KB : Hid (∀ w',Below W0.heap.size W0 w' → w'.cell? ⟨w.heap.size,0,none⟩ = some (.int .i64 (r : Int)) ∧ w'.cell? ⟨w.heap.size,1,none⟩ = some (.int .i64 (c : Int)) ∧ w'.cell? ⟨w.heap.size,2,none⟩ = some (.slice aa la ca)) := fun w' h => ⟨cnow h k0,cnow h k1,cnow h k2⟩
 refine zFA (fun w' => w'.cell? ⟨w.heap.size,0,none⟩ = some (.int .i64 (r : Int)) ∧ w'.cell? ⟨w.heap.size,1,none⟩ = some (.int .i64 (c : Int)) ∧ w'.cell? ⟨w.heap.size,2,none⟩ = some (.slice aa la ca)) 8 (by kernel_rfl) ?_;obtain ⟨D1,hD⟩ : ∃ D1,W0.drew = D1 := ⟨_,rfl⟩
 have GB : Hid (Below W0.heap.size W0 D1) := by unfold Hid;rw [← hD];exact (Below.refl _ _).drew
 rw [hD];clear hD;have HD1 := hid GB.out.size;refine zCA (i := 0) (oi := ⟨some 3,.fieldAddr 24 (.tmp 1) 0,0, "mat.go:102",#[],none⟩) (v := (.pointer (some ⟨w.heap.size,0,none⟩))) rfl (by kernel_rfl) (fun _ _ _ h => h) (Or.inl ⟨by rfl,?_⟩) (KB.out _ GB.out) ?_
 ·intro w hSw;(try dsimp only at hSw);go_simp
 simp only [Act.put,sIb,sC0,sC1];refine zCA (i := 1) (oi := ⟨some 4,.load 3 (.tmp 3),3, "mat.go:102",#[⟨0,.data⟩],none⟩) (v := (.int .i64 (r : Int))) rfl (by kernel_rfl) (fun _ _ _ h => h) (Or.inl ⟨by rfl,?_⟩) (KB.out _ GB.out) ?_
 ·intro w hSw;(try dsimp only at hSw);go_simp
 simp only [Act.put,sIb,sC0,sC1];refine zCA (i := 2) (oi := ⟨some 5,.fieldAddr 24 (.tmp 1) 1,0, "mat.go:102",#[],none⟩) (v := (.pointer (some ⟨w.heap.size,1,none⟩))) rfl (by kernel_rfl) (fun _ _ _ h => h) (Or.inl ⟨by rfl,?_⟩) (KB.out _ GB.out) ?_
 ·intro w hSw;(try dsimp only at hSw);go_simp
 simp only [Act.put,sIb,sC0,sC1];refine zCA (i := 3) (oi := ⟨some 6,.load 3 (.tmp 5),3, "mat.go:102",#[⟨2,.data⟩],none⟩) (v := (.int .i64 (c : Int))) rfl (by kernel_rfl) (fun _ _ _ h => h) (Or.inl ⟨by rfl,?_⟩) (KB.out _ GB.out) ?_
 ·intro w hSw;(try dsimp only at hSw);go_simp
 simp only [Act.put,sIb,sC0,sC1];refine zCA (i := 4) (oi := ⟨some 7,.fieldAddr 24 (.tmp 1) 2,0, "mat.go:102",#[],none⟩) (v := (.pointer (some ⟨w.heap.size,2,none⟩))) rfl (by kernel_rfl) (fun _ _ _ h => h) (Or.inl ⟨by rfl,?_⟩) (KB.out _ GB.out) ?_
 ·intro w hSw;(try dsimp only at hSw);go_simp
 simp only [Act.put,sIb,sC0,sC1];refine zCA (i := 5) (oi := ⟨some 8,.load 22 (.tmp 7),22, "mat.go:102",#[⟨4,.data⟩],none⟩) (v := (.slice aa la ca)) rfl (by kernel_rfl) (fun _ _ _ h => h) (Or.inl ⟨by rfl,?_⟩) (KB.out _ GB.out) ?_
 ·intro w hSw;(try dsimp only at hSw);go_simp
 simp only [Act.put,sIb,sC0,sC1];refine zAA (i := 6) (o := ⟨some 9,.call { callee := .value (.func 54),args := #[.tmp 8,.func 33],argTypes := #[22,77] },22, "mat.go:102",#[⟨5,.data⟩],none⟩) (by kernel_rfl) rfl (fun K hK => ?_);go_simp;go_at_call 54;refine (HS.out _ GB.out).mono ?_;rintro e w2 ⟨g,n,qs,rfl,hge,hpl,q1,q2,b⟩;have lz2 := (show Below _ _ _ from b).size;replace GB := hid (below_step GB.out b);have PR9 := hid (PR.out.step GB.out);have G9 := hid (below_step G.out GB.out);have Q1 := hid q1;have Q2 := hid q2;have lz0 := GB.out.size;have HGE : Hid (W0.heap.size ≤ g) := by unfold Hid;have := HD1.out;omega
 clear q1 q2;clear b;refine hK.out _ _ (fun _ => KB.out _ GB.out) ?_;clear hK;refine zCA (i := 7) (oi := ⟨some 10,.build 24 #[(0,.tmp 4),(1,.tmp 6),(2,.tmp 9)],24, "mat.go:102",#[⟨1,.data⟩,⟨3,.data⟩,⟨6,.data⟩],none⟩) (v := (.agg #[.int .i64 (r : Int),.int .i64 (c : Int),.slice (some ⟨g,0,none⟩) n n])) rfl (by kernel_rfl) (fun _ _ _ h => h) (Or.inl ⟨by rfl,?_⟩) (KB.out _ GB.out) ?_
 ·intro w hSw;(try dsimp only at hSw);go_simp
 simp only [Act.put,sIb,sC0,sC1];refine zAA (i := 8) (o := ⟨none,.store 24 (.tmp 2) (.tmp 10),0, "mat.go:102",#[⟨7,.data⟩,⟨6,.chain⟩,⟨0,.phase⟩,⟨1,.phase⟩,⟨2,.phase⟩,⟨3,.phase⟩,⟨4,.phase⟩,⟨5,.phase⟩,⟨6,.phase⟩,⟨7,.phase⟩],none⟩) (by kernel_rfl) rfl (fun K hK => ?_);have e0 := PR9.out.at (i := 0) rfl;have e1 := PR9.out.at (i := 1) rfl;have e2 := PR9.out.at (i := 2) rfl;have e3 := PR9.out.fz 0;have e4 := PR9.out.fz 1;have e5 := PR9.out.fz 2;go_simp;clear e0 e1 e2 e3 e4 e5;obtain ⟨V3,hW⟩ : ∃ V3,(((w2.setCell ⟨w.heap.size + 1,0,none⟩ (.int .i64 (r : Int))).setCell ⟨w.heap.size + 1,1,none⟩ (.int .i64 (c : Int))).setCell ⟨w.heap.size + 1,2,none⟩ (.slice (some ⟨g,0,none⟩) n n)) = V3 := ⟨_,rfl⟩
 have PF : Hid (Cel V3 (w.heap.size + 1) 24 [(.int .i64 (r : Int)),(.int .i64 (c : Int)),(.slice (some ⟨g,0,none⟩) n n)]) := by unfold Hid;rw [← hW];exact PR9.out.put3 _ _ _
 have FIN : Hid (zCI w r c zs k (.returned (.agg #[.int .i64 (r : Int),.int .i64 (c : Int),.slice (some ⟨g,0,none⟩) n n])) V3) := by
  unfold Hid;rw [← hW];exact ⟨g,n,qs,rfl,by have := SZ.out;have := HGE.out;omega,hpl,Q1.out.put3 (by have := SZ.out;have := HGE.out;omega) _ _ _,Q2.out.wk (PR9.out.wk3 _ _ _),zTA G9.out (by omega) _ _ _⟩
 rw [hW];clear hW;refine hK.out _ _ (fun h => absurd h (by decide)) ?_;clear hK
 try simp only [Act.put]
 refine zDA (by kernel_rfl) ?_ _;clear GB KB;go_wp2;exact bodyPost_ret (zGI Tryz.results79 PF.out _ (by rfl)) rfl FIN.out
theorem leastA_yes {w : World} {v : Value} {r c : Nat} {zs : List Int} {k : Nat} (h : Mx w v r c zs k) : Calls Tryz.prog 51 #[v] w (zUH w r c zs k) := by
 have M0 := hid h;obtain ⟨aa,ca,rfl,hr,hc⟩ := h.form;obtain ⟨la,hla⟩ : ∃ la,r * c = la := ⟨_,rfl⟩
 rw [hla] at M0 ⊢;obtain ⟨W0,hW⟩ : ∃ W0,(w.alloc (matO r c (.slice aa la ca))).alloc mbox = W0 := ⟨_,rfl⟩
 obtain ⟨b0,sz0⟩ := zYA w (matO r c (.slice aa la ca)) mbox;rw [hW] at b0 sz0;obtain ⟨pa,pr⟩ := zaD (o1 := matc r c (.slice aa la ca)) hW;have HCK := hid (zoC (M0.out.now b0));have x0 := pa.at (i := 0) rfl;have x1 := pa.at (i := 1) rfl;have x2 := pa.at (i := 2) rfl;rw [← hW] at x0 x1 x2;have PA := hid pa;have PR := hid pr;have G0 := hid b0;have EW := hid hW;replace M0 := hid (M0.out.now b0);have HRC := hid hla;clear h hla b0 sz0 hW pa pr;go_enter Tryz.func51,Tryz.ntmps51;go_wp2_with fail;rw [EW.out];refine HCK.out.mono ?_;rintro e w1 ⟨rfl,b⟩;have HLE := hid (least9A_any (M0.out.now b));have PR1 := hid (PR.out.step b);have G1 := hid (below_step G0.out b);have z0 := (PA.out.step b).at (i := 0) rfl;have z1 := (PA.out.step b).at (i := 1) rfl;have z2 := (PA.out.step b).at (i := 2) rfl;clear HCK b x0 x1 x2 EW PA PR G0 M0;go_wp2_with fail;refine HLE.out.mono ?_;rintro e w3 ⟨g,n,qs,rfl,hge,hpl,q1,q2,b⟩;have PR3 := hid (PR1.out.step b);have G3 := hid (below_step G1.out b);have HWW : Hid (w.heap.size + 1 < g) := by unfold Hid;have h1 := PR1.out.blk;omega
 have FIN : Hid (zUH w r c zs k (.returned (.tuple #[.agg #[.int .i64 (r : Int),.int .i64 (c : Int),.slice (some ⟨g,0,none⟩) n n],.int .i64 0])) (put3 w3 (w.heap.size + 1) (.int .i64 (r : Int)) (.int .i64 (c : Int)) (.slice (some ⟨g,0,none⟩) n n))) :=
  ⟨g,n,qs,rfl,by have := G1.out.size;omega,hpl,q1.put3 (by have := HWW.out;omega) _ _ _,q2.wk (PR3.out.wk3 _ _ _),zTA G3.out (by omega) _ _ _⟩
 have PF := hid (PR3.out.put3 (.int .i64 (r : Int)) (.int .i64 (c : Int)) (.slice (some ⟨g,0,none⟩) n n));have r0 := PR3.out.at (i := 0) rfl;have r1 := PR3.out.at (i := 1) rfl;have r2 := PR3.out.at (i := 2) rfl;have f0 := PR3.out.fz 0;have f1 := PR3.out.fz 1;have f2 := PR3.out.fz 2;clear HLE b q1 q2 PR1 G1 z0 z1 z2;go_wp2;exact bodyPost_ret (zMF Tryz.results51 PF.out _ (by rfl) (by rfl)) rfl FIN.out
end Go.Proofs.YtmnecbniappnaaaGreat
