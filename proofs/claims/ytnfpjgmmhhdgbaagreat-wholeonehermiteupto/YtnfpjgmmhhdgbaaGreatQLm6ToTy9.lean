/-
 QLm6ToTy9: Lm6, CrtPure, TailA, Crt6, CrtLPure, Fit8, Chain8, IsChain8, Bw8, TailX, Round8, Rf11, Pure9, St11, Ty9, joined.
-/
import Derived.Test.YtnfpjgmmhhdgbaaGreatQExt6
import Derived.Test.YtnfpjgmmhhdgbaaGreatQZModToLess6
import Derived.Test.YtnfpjgmmhhdgbaaGreatQZMetToGcd6
import Derived.Test.YtnfpjgmmhhdgbaaGreatQFil9ToRowsOf9
import Derived.Test.YtnfpjgmmhhdgbaaGreatQAlikeToShift
import Derived.Test.YtnfpjgmmhhdgbaaGreatQZOnesToZCmp
import Derived.Test.YtnfpjgmmhhdgbaaGreatQZStoreToLst9
import Derived.Deep.LoopGhost
import Derived.Test.YtnfpjgmmhhdgbaaGreatQMulAllToOnes
import Derived.RangeFuncNested
import Derived.RangeFuncBound
import Derived.RangeFuncCalls
import Derived.RangeFuncLeaves
import Derived.RangeFuncBox
import Derived.Shelf.Abstract
import Derived.Shelf.RegionOpen
import Derived.WalkKit
import Derived.OwnWalkIn
import Derived.TacticsInMore
import Derived.LoopNIn
import Derived.LoopIn
import Derived.Test.YtnfpjgmmhhdgbaaGreatQCat9ToOpenM9

set_option maxRecDepth 100000
set_option maxHeartbeats 6400000
set_option linter.unusedVariables false
set_option linter.unusedSimpArgs false
namespace Go.Proofs.YtnfpjgmmhhdgbaaGreat
open Go.RowKit

section
variable {P : Program} {ops : Array Oper} {Q : Exit → Act → World → Prop} {md : Region.Mode} {S : World → Prop} {n : Nat}
end





open Go.RowKit Go.Shelf
attribute [local go_sem] Oper.semAt_some
end Go.Proofs.YtnfpjgmmhhdgbaaGreat
namespace Go.Proofs.YtnfpjgmmhhdgbaaGreat
open Go.RowKit
section
variable {P : Program} {ops : Array Oper} {Q : Exit → Act → World → Prop} {md : Region.Mode} {S : World → Prop} {X : List Nat}
end
open Go.RowKit Go.Shelf
theorem rows_in {n : Nat} {P : Program} {row : String} {args : Array Value} {w : World} {R : Value → World → Prop} (l : Nat) (h : Rows P row args w R) : RowsIn (Fence.wide.inRound l) n P row args w R :=
 fun c cs _ => let ⟨v,w',r,s⟩ := h c cs;⟨v,w',r,stepsIn_wide.2 s⟩
theorem op_round {P : Program} {l n : Nat} {o : Oper} {a : Act} {w : World} {K : Act → World → Prop} {Q : Exit → Act → World → Prop} (hno : ∀ c,o.op ≠ .defer c) (h : o.wp P a w K Q) : o.wpIn (Fence.wide.inRound l) n P a w K Q := by
 refine ⟨fun _ _ => trivial,?_⟩;rw [Fence.inRound_round,Oper.semAt_some l a.eval o hno];unfold Oper.wp at h;generalize (execOp a.eval o).run P w = r at *;cases r with
 | ok x w' =>
  cases x <;> simp only [Oper.upon,Oper.uponIn] at h ⊢
  all_goals first
   | exact h
   | exact ⟨fun e => (by cases e),CallsIn.inRound l (callsIn_wide.2 h)⟩
   | exact ⟨fun e => (by cases e),rows_in l h⟩
   | exact h.elim
 | halt x w' => cases x <;> simp only [Oper.upon,Oper.uponIn] at h ⊢ <;> first | exact h | exact h.elim
theorem zmB {A B : World} (h : Below A.heap.size A B) : A.grownBy B none := ⟨h.os,h.tape,h.output,h.size,fun k hk _ => h.block k hk⟩
theorem zsG {σ α : Type} {P : Program} {n : Nat} {g : Operand} {ps : Array Tmp} {assign body : Code} {Q : Exit → Act → World → Prop} {a : Act} {w : World}
  (h1 : 1 ≤ n) {gf : Nat} {lb : Array Value} (hg : a.eval g = .func (.func gf) #[] lb) (eg : ∀ args w,(callFunc gf args).run P w = .ok (.enter gf args) w)
  (enc : α → Array Value) (hps : ∀ x,(enc x).size = ps.size)
  (J : σ → World → Prop) (hJ : OwnFrom w.heap.size J) (At : σ → α → World → Prop) (hAt : ∀ s x,OwnFrom w.heap.size (fun (_ : Unit) W => At s x W)) (nx : σ → α → σ)
  (Kp : σ → World → World → Prop) (hKt : ∀ {s : σ} {A B C : World},Kp s A B → Kp s B C → Kp s A C) (hKb : ∀ (s : σ) (W : World) (l : Nat) (o o' : Obj),w.heap.size ≤ l → W.heap[l]? = some o → o.isCells = false → Kp s W (W.putObj l o'))
  (Ini Fin : σ → Prop) (h0 : ∀ s,Ini s → J s w)
  (hit : ∀ (l : Nat) (J' : σ → World → Prop) (W : World),Below w.heap.size w W → (∀ s X,J' s X → J s X) → (∀ s A B,J' s A → Below A.heap.size A B → J' s B) → (∀ s,Ini s → J' s W) →
   (∀ s x X,J' s X → At s x X → YieldAt Fence.wide (n - 1 - 1) P l (enc x) X fun e Y => e = .returned (.bool true) ∧ J' (nx s x) Y ∧ Kp s X Y) →
   CallsIn Fence.wide (n - 1) P gf (#[.func (.yield l) #[] #[]] ++ lb) W fun e Y => (∃ v,e = .returned v) ∧ ∃ s,Fin s ∧ J' s Y)
  (a₁ : α → Act) (hassign : ∀ (l : Nat) (x : α) (W : World) (K : Act → World → Prop),K (a₁ x) W →
   assign.wpIn (Fence.wide.inRound l) (n - 1 - 1) P (Exit.then K (fun _ _ _ => False)) { tmps := (ps.zip (enc x)).foldl (fun t (p,v) => t.setIfInBounds p v) a.tmps,defers := [] } W)
  (hbody : ∀ (l : Nat) (s : σ) (x : α) (W : World),J s W → At s x W → body.wpIn (Fence.wide.inRound l) (n - 1 - 1) P (fun e _ Y => e = .normal ∧ KeepsFrom w.heap.size W Y ∧ J (nx s x) Y ∧ Kp s W Y) (a₁ x) W)
  (hdone : ∀ (D : Nat) (s : σ) (W : World),w.heap.size ≤ D → Fin s → J s W → W.heap[D]? = some (.deferred (some [])) → Q .normal { a with defers := { target := .collected D,args := #[] } :: a.defers } W) :
  (Code.rangeFunc g ps assign body).wpIn Fence.wide n P Q a w := by
 refine wpIn_rangeFunc fun fn hfn => ?_
 obtain ⟨R,hR⟩ : ∃ R : LoopState → Option Code → Loop,R = fun st pe => { state := st,pending := pe,fn,tmps := a.tmps,params := ps,assign,body,defers := w.heap.size } := ⟨_,rfl⟩
 obtain ⟨W1,hW1⟩ : ∃ W1,(w.alloc (.deferred (some []))).alloc (.loop (R .ready none)) = W1 := ⟨_,rfl⟩
 have bw : Below w.heap.size w W1 := by rw [← hW1];exact (((Below.refl _ w).alloc (Nat.le_refl _) _).alloc (by simp) _)
 have hL : W1.heap[w.heap.size + 1]? = some (.loop (R .ready none)) := by
  rw [← hW1];have := World.alloc_heap_new (w.alloc (.deferred (some []))) (.loop (R .ready none))
  rwa [World.size_alloc] at this
 have hD : W1.heap[w.heap.size]? = some (.deferred (some [])) := by
  rw [← hW1];exact (Below.heap_alloc _ _ _ (by simp)).trans (World.alloc_heap_new w _)
 refine ⟨w.heap.size + 1,[{ target := .collected w.heap.size,args := #[] }],W1,{ target := .fn (.func gf) lb,args := #[.func (.yield (w.heap.size + 1)) #[] #[]] },W1,gf,#[.func (.yield (w.heap.size + 1)) #[] #[]] ++ lb,W1,?_,?_,fun _ _ => trivial,?_,fun _ => h1,?_⟩
 ·rw [← hW1,hR];exact run_enterLoop_outer _ _ _ _ _
 ·simp only [resolve,hg]
  simp [go_sem]
 ·simp [invoke,go_sem,eg]
 ·refine (hit (w.heap.size + 1) (fun s W => J s W ∧ W.heap[w.heap.size + 1]? = some (.loop (R .ready none)) ∧ W.heap[w.heap.size]? = some (.deferred (some []))) W1 bw (fun s X h => h.1)
   (fun s A B h b => ⟨hJ s A B none h.1 (zmB b) (fun r e => by cases e),(b.block _ (Array.getElem?_eq_some_iff.1 h.2.1).1).trans h.2.1,(b.block _ (Array.getElem?_eq_some_iff.1 h.2.2).1).trans h.2.2⟩)
   (fun s hs => ⟨hJ s w W1 none (h0 s hs) (zmB bw) (fun r e => by cases e),hL,hD⟩) ?_).mono ?_
  ·rintro s x X ⟨hj,hl,hk⟩ hat
   have hlt : w.heap.size + 1 < X.heap.size := (Array.getElem?_eq_some_iff.1 hl).1;have hy := run_yield (P := P) (args := enc x) hl (by rw [hR];exact hps x);rw [hR] at hy;refine ⟨fn,_,assign,body,hy,roundIn_of_wpIn hfn (hassign _ x X _ ?_)⟩;clear hy;refine ⟨_,run_beginRound hl (by rw [hR]),?_⟩;obtain ⟨X2,hX2⟩ : ∃ X2,X.putObj (w.heap.size + 1) (.loop { R .ready none with state := .busy }) = X2 := ⟨_,rfl⟩
   have hl2 : X2.heap[w.heap.size + 1]? = some (.loop { R .ready none with state := .busy }) := by rw [← hX2];exact World.putObj_heap_same hlt
   have hk2 : X2.heap[w.heap.size]? = some (.deferred (some [])) := by rw [← hX2];exact (World.putObj_heap_other (by omega)).trans hk
   have hj2 : J s X2 := by rw [← hX2];exact hJ.putObj _ hj (by omega) hl rfl
   have ha2 : At s x X2 := by rw [← hX2];exact (hAt s x).putObj (s := ()) _ hat (by omega) hl rfl
   have hp2 : Kp s X X2 := by rw [← hX2];exact hKb s _ _ _ _ (by omega) hl rfl
   rw [hX2];refine wpIn_mono (hbody _ s x X2 hj2 ha2) ?_;rintro e a3 X3 ⟨rfl,q1,q2,q3⟩;have hl3 := q1.same _ _ (by omega) hl2 rfl;have hr := run_endRound (P := P) none hl3;refine ⟨_,_,hr,rfl,⟨hJ.putObj _ q2 (by omega) hl3 rfl,?_,?_⟩,hKt (hKt hp2 q3) (hKb s _ _ _ _ (by omega) hl3 rfl)⟩
   ·have := World.putObj_heap_same (w := X3) (r := w.heap.size + 1) (o := .loop { { R .ready none with state := .busy } with state := .ready,pending := none }) (Array.getElem?_eq_some_iff.1 hl3).1
    rw [hR] at this ⊢;exact this
   ·exact (World.putObj_heap_other (by omega)).trans (q1.same _ _ (Nat.le_refl _) hk2 rfl)
  ·rintro e Y ⟨⟨v,rfl⟩,s,hf,hj,hl,hk⟩
   have hr := run_endLoop (P := P) hl (by rw [hR];simp);refine ⟨_,_,hr,?_⟩;rw [hR];exact hdone _ s _ (Nat.le_refl _) hf (hJ.putObj _ hj (by omega) hl rfl) ((World.putObj_heap_other (by omega)).trans hk)
end Go.Proofs.YtnfpjgmmhhdgbaaGreat
namespace Go.Proofs.YtnfpjgmmhhdgbaaGreat

inductive St where
 | swap (i j : Nat)
 | neg (i : Nat)
 | add (i j : Nat) (z : Int)
def St.fit (n : Nat) : St → Prop
 | .swap i j => i < n ∧ j < n
 | .neg i => i < n
 | .add i j _ => i < n ∧ j < n ∧ i ≠ j
def zHA (zss : List (List Int)) (i : Nat) : List Int := zss.getD i []
def zyA (z : Int) (xs ys : List Int) : List Int := List.zipWith (fun x y => z * y + x) xs ys
def zDB (xs : List Int) : List Int := xs.map fun x => -x
def St.run : St → List (List Int) → List (List Int)
 | .swap i j,m => (m.set i (zHA m j)).set j (zHA m i)
 | .neg i,m => m.set i (zDB (zHA m i))
 | .add i j z,m => m.set i (zyA z (zHA m i) (zHA m j))
def runs (ss : List St) (m : List (List Int)) : List (List Int) := ss.foldl (fun m s => s.run m) m
theorem runs_nil (m : List (List Int)) : runs [] m = m := rfl
theorem runs_snoc (ss : List St) (s : St) (m : List (List Int)) : runs (ss ++ [s]) m = s.run (runs ss m) := by simp [runs,List.foldl_append]
theorem St.run_length (s : St) (m : List (List Int)) : (s.run m).length = m.length := by cases s <;> simp [St.run]
theorem zUB (ss : List St) : ∀ m,(runs ss m).length = m.length := by
 induction ss with
 | nil => intro m;rfl
 | cons s r ih => intro m;exact (ih (s.run m)).trans (s.run_length m)
def Wide (c : Nat) (m : List (List Int)) : Prop := ∀ r ∈ m,r.length = c
theorem Wide.at {c i : Nat} {m : List (List Int)} (h : Wide c m) (hi : i < m.length) : (zHA m i).length = c := by
 have e : zHA m i = m[i] := by simp [zHA,hi]
 rw [e];exact h _ (List.getElem_mem hi)
theorem Wide.set {c i : Nat} {m : List (List Int)} {r : List Int} (h : Wide c m) (hr : r.length = c) : Wide c (m.set i r) := fun x hx => by
 rcases List.mem_or_eq_of_mem_set hx with q | rfl
 ·exact h x q
 ·exact hr
theorem zXC {c : Nat} {z : Int} {xs ys : List Int} (h1 : xs.length = c) (h2 : ys.length = c) : (zyA z xs ys).length = c := by simp [zyA,h1,h2]
theorem zNC {xs : List Int} : (zDB xs).length = xs.length := by simp [zDB]
theorem St.run_wide {c : Nat} {s : St} {m : List (List Int)} (h : Wide c m) (hf : s.fit m.length) : Wide c (s.run m) := by
 cases s with
 | swap i j => exact (h.set (h.at hf.2)).set (h.at hf.1)
 | neg i => exact h.set (by rw [zNC];exact h.at hf)
 | add i j z => exact h.set (zXC (h.at hf.1) (h.at hf.2.1))
theorem zUE {c : Nat} {ss : List St} : ∀ {m : List (List Int)},Wide c m → (∀ s ∈ ss,s.fit m.length) → Wide c (runs ss m) := by
 induction ss with
 | nil => intro m h _;exact h
 | cons s r ih => intro m h hf;exact ih (St.run_wide h (hf s (by simp))) (fun t ht => by rw [s.run_length];exact hf t (by simp [ht]))
theorem rowsL_flatten {c : Nat} : ∀ {L : List (List Int)},Wide c L → rowsL L.length c L.flatten = L := by
 intro L h
 apply List.ext_getElem
 ·simp [rowsL]
 ·intro i h1 h2
  simp only [rowsL,List.getElem_map,List.getElem_range]
  induction L generalizing i with
  | nil => simp at h2
  | cons a L ih =>
   have ha : a.length = c := h a (by simp);cases i with
   | zero => simp [← ha]
   | succ i =>
    have h6 : (i + 1) * c = c + i * c := by rw [Nat.add_mul,Nat.one_mul,Nat.add_comm]
    simp only [List.flatten_cons,List.getElem_cons_succ];rw [h6,← ha,List.drop_length_add_append,ha];exact ih (fun x hx => h x (by simp [hx])) i (by simpa [rowsL] using h1) (by simpa using h2)
theorem zIC {r c : Nat} {zs : List Int} (hl : zs.length = r * c) : Wide c (rowsL r c zs) := rows_len hl
theorem zbA {r c : Nat} {zs : List Int} : (rowsL r c zs).length = r := by simp [rowsL]
def zWE (ss : List St) (r c : Nat) (zs : List Int) : List Int := (runs ss (rowsL r c zs)).flatten
theorem rowsT_length {ss : List St} {r c : Nat} {zs : List Int} (hl : zs.length = r * c) (hf : ∀ s ∈ ss,s.fit r) : (zWE ss r c zs).length = r * c := by
 have h1 := zUE (ss := ss) (zIC hl) (by rw [zbA];exact hf);have h2 : (runs ss (rowsL r c zs)).length = r := by rw [zUB,zbA]
 have := zBD (m := c) (pss := runs ss (rowsL r c zs)) h1 r (by omega);rw [List.take_of_length_le (by omega)] at this;exact this
open Go.RowKit
def Ty (T : TypeId) (w w' : World) : Prop := w.heap.size ≤ w'.heap.size ∧ ∀ (b : Nat) (L : Array Value) (T' : TypeId) (fr : Nat × Nat),w.heap[b]? = some (.cells L T' fr) → T' ≠ T → w'.heap[b]? = some (.cells L T' fr)
theorem Ty.trans {T : TypeId} {a b c : World} (h : Ty T a b) (h' : Ty T b c) : Ty T a c := ⟨Nat.le_trans h.1 h'.1,fun g L T' fr e hne => h'.2 g L T' fr (h.2 g L T' fr e hne) hne⟩
theorem Ty.set {T : TypeId} {w : World} {g i : Nat} {L : List Value} {u : Value} (d : Cel w g T L) : Ty T w (w.setCell ⟨g,i,none⟩ u) := by
 refine ⟨by simp,fun b L' T' fr e hne => ?_⟩;have hb : b ≠ g := fun q => by
  subst q;have := e.symm.trans (show w.heap[b]? = _ from d);simp at this;exact hne this.2.1
 exact (Below.heap_setCell w _ u b (fun q => hb (by simpa using q))).trans e
theorem Ty.grown {T : TypeId} {w w' : World} {B size n : Nat} {v : Value} {xs : List Value} (h : w.ownsRow B T size v n xs) (hg : w.grownBy w' v.ownBlock) : Ty T w w' := by
 refine ⟨hg.size,fun b L' T' fr e hne => (hg.block b (Array.getElem?_eq_some_iff.1 e).1 (fun q => ?_)).trans e⟩;obtain ⟨_,⟨q1,_⟩ | ⟨g,cap,cur,q1,_,q3,_⟩⟩ := h
 ·rw [q1] at q;cases q
 ·rw [q1] at q
  simp only [Value.ownBlock,Option.some.injEq] at q;subst q;have := e.symm.trans q3;simp at this;exact hne this.2.1
theorem Zm.ty {T : TypeId} {B k : Nat} {w w' : World} {v : Value} {z : Int} (h : Zm B w v z k) (ht : Ty T w w') (hT : 58 ≠ T) : Zm B w' v z k := by
 obtain ⟨n1,zs,a,c,e,hm,rest⟩ := h;refine ⟨n1,zs,a,c,e,?_,rest⟩;obtain ⟨hw,h | ⟨g,r,cap,h1,h2,h3,h4,h5,h6⟩⟩ := hm
 ·exact ⟨hw,.inl h⟩
 ·exact ⟨hw,.inr ⟨g,r,cap,h1,h2,h3,h4,h5,ht.2 g _ _ _ h6 hT⟩⟩
def Zms (w : World) (ps : List (Value × Value)) (zs : List Int) (k : Nat) : Prop := ps.length = zs.length ∧ ∀ (j : Nat) (p : Value × Value) (z : Int),ps[j]? = some p → zs[j]? = some z → Zm 0 w (.agg #[p.1,p.2]) z k
theorem Zms.ty {T : TypeId} {w w' : World} {ps : List (Value × Value)} {zs : List Int} {k : Nat} (h : Zms w ps zs k) (ht : Ty T w w') (hT : 58 ≠ T) : Zms w' ps zs k := ⟨h.1,fun j p z hp hz => (h.2 j p z hp hz).ty ht hT⟩
theorem Zms.now {w w' : World} {ps : List (Value × Value)} {zs : List Int} {k : Nat} (h : Zms w ps zs k) (hb : Below w.heap.size w w') : Zms w' ps zs k := ⟨h.1,fun j p z hp hz => (h.2 j p z hp hz).now hb⟩
theorem Zms.zcs {w : World} {ps : List (Value × Value)} {zs : List Int} {k : Nat} (h : Zms w ps zs k) : Zcs w ps zs k := ⟨h.1,fun j p z hp hz => (h.2 j p z hp hz).zc⟩
def FilM (wx : World) (g n i : Nat) (F : Nat → Int) (k : Nat) : Prop := ∃ ps,Arr wx g ps ∧ ps.length = n ∧ ∀ (j : Nat) (p : Value × Value),j < i → ps[j]? = some p → Zm 0 wx (.agg #[p.1,p.2]) (F j) k
theorem FilM.start {w : World} {g n : Nat} (h : Arr w g (List.replicate n zrE)) (F : Nat → Int) (k : Nat) : FilM w g n 0 F k := ⟨_,h,by simp,fun j p hj => by omega⟩
theorem FilM.step {w w' : World} {g n i : Nat} {F : Nat → Int} {k : Nat} (h : FilM w g n i F k) (hb : Below w.heap.size w w') : FilM w' g n i F k := by
 obtain ⟨ps,h1,h2,h3⟩ := h;exact ⟨ps,h1.step hb,h2,fun j p hj hp => (h3 j p hj hp).now hb⟩
theorem FilM.put {w : World} {g n i : Nat} {F : Nat → Int} {k : Nat} {x y : Value} (h : FilM w g n i F k) (hi : i < n) (hz : Zm 0 w (.agg #[x,y]) (F i) k) : FilM ((w.setCell ⟨g,i * 2,none⟩ x).setCell ⟨g,i * 2 + 1,none⟩ y) g n (i + 1) F k := by
 obtain ⟨ps,h1,h2,h3⟩ := h;have ht : Ty 51 w ((w.setCell ⟨g,i * 2,none⟩ x).setCell ⟨g,i * 2 + 1,none⟩ y) := (Ty.set h1.1).trans (Ty.set (h1.1.set _ _));refine ⟨ps.set i (x,y),h1.put (by omega) hz.zi.isI,by simpa using h2,fun j p hj hp => ?_⟩
 by_cases q : j = i
 ·subst q
  rw [List.getElem?_set_self (by omega),Option.some.injEq] at hp;subst hp;exact hz.ty ht (by decide)
 ·rw [List.getElem?_set_ne (by omega)] at hp
  exact (h3 j p (by omega) hp).ty ht (by decide)
theorem FilM.cells {w : World} {g n i j : Nat} {F : Nat → Int} {k : Nat} (h : FilM w g n i F k) (hj : j < n) : ∃ m a l c,w.cell? ⟨g,j * 2,none⟩ = some (.bool m) ∧ w.cell? ⟨g,j * 2 + 1,none⟩ = some (.slice a l c) ∧ w.frozen? ⟨g,j * 2,none⟩ = false ∧ w.frozen? ⟨g,j * 2 + 1,none⟩ = false := by
 obtain ⟨ps,h1,h2,h3⟩ := h;have hp : ps[j]? = some (ps[j]'(by omega)) := List.getElem?_eq_getElem (by omega);obtain ⟨m,a,l,c,e⟩ := h1.2 _ (List.getElem_mem (l := ps) (n := j) (by omega));have q := h1.at hp;rw [e] at q;exact ⟨m,a,l,c,q.1,q.2,h1.1.fz _,h1.1.fz _⟩
end Go.Proofs.YtnfpjgmmhhdgbaaGreat
