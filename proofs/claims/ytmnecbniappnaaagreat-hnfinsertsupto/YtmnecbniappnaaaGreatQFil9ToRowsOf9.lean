/-
 QFil9ToRowsOf9: Fil9, Tail, Dot9, Rows9, RowsOf9, joined.
-/
import Derived.Test.YtmnecbniappnaaaGreatQZStoreToLst9
import Derived.Deep.LoopGhost
import Derived.Test.YtmnecbniappnaaaGreatQWordsToCarry
import Derived.Deep.RegionHeld3
import Derived.StillTail

set_option maxRecDepth 100000
set_option maxHeartbeats 6400000
set_option linter.unusedVariables false
set_option linter.unusedSimpArgs false
namespace Go.Proofs.YtmnecbniappnaaaGreat
open Go.RowKit
def Fil (wx : World) (g n i : Nat) (F : Nat → Int) (k : Nat) : Prop := ∃ ps,Arr wx g ps ∧ ps.length = n ∧ ∀ (j : Nat) (p : Value × Value),j < i → ps[j]? = some p → Zc wx (.agg #[p.1,p.2]) (F j) k
theorem Fil.start {w : World} {g n : Nat} (h : Arr w g (List.replicate n zfF)) (F : Nat → Int) (k : Nat) : Fil w g n 0 F k := ⟨_,h,by simp,fun j p hj => by omega⟩
theorem Fil.step {w w' : World} {g n i : Nat} {F : Nat → Int} {k : Nat} (h : Fil w g n i F k) (hb : Below w.heap.size w w') : Fil w' g n i F k := by
 obtain ⟨ps,h1,h2,h3⟩ := h;exact ⟨ps,h1.step hb,h2,fun j p hj hp => (h3 j p hj hp).now hb⟩
theorem Fil.put {w : World} {g n i : Nat} {F : Nat → Int} {k : Nat} {x y : Value} (h : Fil w g n i F k) (hi : i < n) (hz : Zc w (.agg #[x,y]) (F i) k) : Fil ((w.setCell ⟨g,i * 2,none⟩ x).setCell ⟨g,i * 2 + 1,none⟩ y) g n (i + 1) F k := by
 obtain ⟨ps,h1,h2,h3⟩ := h;have hw := h1.wk (i := i) (by omega) x y;refine ⟨ps.set i (x,y),h1.put (by omega) hz.zi.isI,by simpa using h2,fun j p hj hp => ?_⟩
 by_cases q : j = i
 ·subst q
  rw [List.getElem?_set_self (by omega),Option.some.injEq] at hp;subst hp;exact hz.wk hw
 ·rw [List.getElem?_set_ne (by omega)] at hp
  exact (h3 j p (by omega) hp).wk hw
theorem Fil.cells {w : World} {g n i j : Nat} {F : Nat → Int} {k : Nat} (h : Fil w g n i F k) (hj : j < n) : ∃ m a l c,w.cell? ⟨g,j * 2,none⟩ = some (.bool m) ∧ w.cell? ⟨g,j * 2 + 1,none⟩ = some (.slice a l c) ∧ w.frozen? ⟨g,j * 2,none⟩ = false ∧ w.frozen? ⟨g,j * 2 + 1,none⟩ = false := by
 obtain ⟨ps,h1,h2,h3⟩ := h;have hp : ps[j]? = some (ps[j]'(by omega)) := List.getElem?_eq_getElem (by omega);obtain ⟨m,a,l,c,e⟩ := h1.2 _ (List.getElem_mem (l := ps) (n := j) (by omega));have q := h1.at hp;rw [e] at q;exact ⟨m,a,l,c,q.1,q.2,h1.1.fz _,h1.1.fz _⟩
theorem Fil.done {w : World} {g n : Nat} {F : Nat → Int} {k : Nat} (h : Fil w g n n F k) {B : Nat} (hB : B ≤ g) (hn : n ≤ 1048576) : ∃ ps,Prs B w (.slice (some ⟨g,0,none⟩) n n) ps ∧ Zcs w ps ((List.range n).map F) k := by
 obtain ⟨ps,h1,rfl,h3⟩ := h;refine ⟨ps,h1.prs hB hn (Nat.le_refl _),by simp,fun j p z hp hz => ?_⟩;have hj : j < ps.length := (List.getElem?_eq_some_iff.1 hp).1;rw [List.getElem?_map,List.getElem?_range hj,Option.map_some,Option.some.injEq] at hz;subst hz;exact h3 j p hj hp
theorem Zl.form9 {w : World} {v : Value} {zs : List Int} {k : Nat} (h : Zl w v zs k) : ∃ a c,v = .slice a zs.length c ∧ zs.length ≤ c ∧ zs.length ≤ 1048576 ∧ (zs ≠ [] → ∃ b off,a = some ⟨b,off,none⟩) := by
 obtain ⟨a,c,h1,h2,h3,h4⟩ := h;refine ⟨a,c,h1,h2,h3,fun hne => ?_⟩;rcases h4 with h4 | ⟨b,off,h5,_⟩
 ·exact absurd h4 hne
 ·exact ⟨b,off,h5⟩
theorem Zl.at9 {w : World} {b off l c : Nat} {zs : List Int} {k : Nat} (h : Zl w (.slice (some ⟨b,off,none⟩) l c) zs k) {i : Nat} (hi : i < zs.length) : ∃ n,∃ xs : List Int,∃ a c,w.cell? ⟨b,off + i * 2,none⟩ = some (.bool n) ∧ w.cell? ⟨b,off + i * 2 + 1,none⟩ = some (.slice a xs.length c) ∧ Zi w (.agg #[.bool n,.slice a xs.length c]) zs[i] k := by
 obtain ⟨a',c',h1,h2,h3,h4⟩ := h;rcases h4 with h4 | ⟨b',off',h5,h6,h7⟩
 ·subst h4;simp at hi
 ·simp only [Value.slice.injEq] at h1
  obtain ⟨rfl,-,-⟩ := h1;simp only [Option.some.injEq,Addr.mk.injEq,and_true] at h5;obtain ⟨rfl,rfl⟩ := h5;obtain ⟨x,y,q1,q2,q3⟩ := h7 i hi;have q3' := q3;obtain ⟨n,xs,a,c,e,-⟩ := q3;simp only [Value.agg.injEq,Array.mk.injEq,List.cons.injEq,and_true] at e;obtain ⟨rfl,rfl⟩ := e;rw [Nat.mul_comm 2 i] at q1 q2;exact ⟨n,xs,a,c,q1,q2,q3'⟩
theorem Zm.parts {B : Nat} {w : World} {v : Value} {z : Int} {k : Nat} (h : Zm B w v z k) : ∃ n,∃ xs : List Int,∃ a c,v = .agg #[.bool n,.slice a xs.length c] := by
 obtain ⟨n,xs,a,c,e,-⟩ := h;exact ⟨n,xs,a,c,e⟩
theorem sIb {α : Type _} (l : List α) (i : Nat) (a : α) : l.toArray.setIfInBounds i a = (l.set i a).toArray := List.setIfInBounds_toArray l i a
theorem sC0 {α : Type _} {a b : α} {l : List α} : (a :: l).set 0 b = b :: l := List.set_cons_zero
theorem sC1 {α : Type _} {a b : α} {n : Nat} {l : List α} : (a :: l).set (n + 1) b = a :: l.set n b := List.set_cons_succ
section
variable {P : Program} {ops : Array Oper} {Q : Exit → Act → World → Prop} {md : Region.Mode} {S : World → Prop} {n : Nat}
def zuA (P : Program) (md : Region.Mode) (ops : Array Oper) (Q : Exit → Act → World → Prop) (S : World → Prop) (n : Nat) : Nat → Array Bool → Act → World → Prop
 | 0,listed,a,w => Region.ready md ops listed = [] ∧ Q .normal a w
 | fuel + 1,listed,a,w =>
  (Region.ready md ops listed = [] → Q .normal a w) ∧
  ∀ i ∈ Region.ready md ops listed,wpOp P ops Q i (fun a' w' => (i < n → S w') ∧ zuA P md ops Q S n fuel (listed.setIfInBounds i true) a' w') a w
theorem zZC : ∀ (fuel : Nat) (listed : Array Bool) (a : Act) (w : World),zuA P md ops Q S n fuel listed a w → wpAny P md ops Q fuel listed a w
 | 0,_,_,_,h => h
 | fuel + 1,_,_,_,h => ⟨h.1,fun i hi => wpOp_mono (fun a' w' h' => zZC fuel _ a' w' h'.2) (h.2 i hi)⟩
theorem wpAnyT_first {i : Nat} {oi : Oper} {v : Value} (hi : ops[i]? = some oi) (hsel : ∀ (j : Nat) (o : Oper) cs b,ops[j]? = some o → o.op ≠ .select cs b)
  (hQ : ∀ c a w,Q (.panic c) (a.put oi.dst v) w → Q (.panic c) a w)
  (hs : Region.sinkB md ops n = true) (hc : Region.chainB md ops n = true) (hn : n < ops.size) (hin : i < n) :
  ∀ (fuel : Nat) (listed : Array Bool) (a : Act) (w : World),HeadInv md ops n listed →
   (∀ j oj,ops[j]? = some oj → j ≠ i → listed.getD j true = false → (∀ e ∈ oj.after,Region.binds md e = true → e.on ≠ i) → oi.apart ops oj = true) →
   i ∈ Region.ready md ops listed → YieldsIf P ops S oi v a → S w →
   zuA P md ops Q S n fuel (listed.setIfInBounds i true) (a.put oi.dst v) w → zuA P md ops Q S n (fuel + 1) listed a w := by
 intro fuel
 induction fuel with
 | zero =>
  intro listed a w inv _ hr hy hS H;refine ⟨fun h => (by rw [h] at hr;cases hr),fun j hj => ?_⟩
  by_cases hji : j = i
  ·subst hji;exact hy.wpOp hi hS ⟨fun _ => hS,H⟩
  ·have := ready_mono hj hji
   rw [H.1] at this;cases this
 | succ fuel ih =>
  intro listed a w inv hfree hr hy hS H;have hun := (mem_ready.1 hr).1;refine ⟨fun h => (by rw [h] at hr;cases hr),fun j hj => ?_⟩;have hjn : j < n := by
   rcases Nat.lt_or_ge j n with h | h
   ·exact h
   ·exact absurd hj (tail_waits hs hc hn inv _ i rfl hin hun j h)
  by_cases hji : j = i
  ·subst hji;exact hy.wpOp hi hS ⟨fun _ => hS,H⟩
  ·have h1 := H.2 j (ready_mono hj hji)
   obtain ⟨hjun,oj,hoj,hall⟩ := mem_ready.1 hj;have hnot : ∀ e ∈ oj.after,Region.binds md e = true → e.on ≠ i := fun e he hb heq => by
    have h1 := hall e he hb;have h0 := (mem_ready.1 hr).1;rw [heq] at h1;rcases Nat.lt_or_ge i listed.size with h' | h'
    ·simp [h'] at h0 h1;rw [h0] at h1;cases h1
    ·simp [Array.getElem?_eq_none h'] at h1
   have h2 := wpOp_putIf hoj (hfree j oj hoj hji hjun hnot) (fun cs b => hsel i oi cs b hi) (fun cs b => hsel j oj cs b hoj) hQ hy h1;have hfree' : ∀ k ok,ops[k]? = some ok → k ≠ i → (listed.setIfInBounds j true).getD k true = false →
     (∀ e ∈ ok.after,Region.binds md e = true → e.on ≠ i) → oi.apart ops ok = true := fun k ok hk hki hun hno => by
    refine hfree k ok hk hki ?_ hno
    by_cases hjk : j = k
    ·subst hjk;exact hjun
    ·rw [getD_set_ne true hjk] at hun;exact hun
   refine wpOp_mono (fun a' w' h3 => ⟨fun _ => h3.2.1 hjn,ih (listed.setIfInBounds j true) a' w' (inv.set hj hjn) hfree' (ready_mono hr (Ne.symm hji)) h3.1 (h3.2.1 hjn) ?_⟩) h2;rw [Array.setIfInBounds_comm _ _ hji];exact h3.2.2
def zXH (md : Region.Mode) (ops : Array Oper) (n : Nat) (listed : Array Bool) : Bool :=
 decide (listed.size = ops.size) && (List.range ops.size).all (fun j => match ops[j]? with
  | some oj => !(listed.getD j false) || oj.after.all (fun e => !(Region.binds md e) || listed.getD e.on false)
  | none => true) && (List.range ops.size).all (fun t => decide (t < n) || !(listed.getD t true))
theorem headB_spec {listed : Array Bool} (h : zXH md ops n listed = true) : HeadInv md ops n listed := by
 unfold zXH at h;simp only [Bool.and_eq_true,decide_eq_true_eq,List.all_eq_true,List.mem_range,Bool.or_eq_true,Bool.not_eq_true'] at h;obtain ⟨⟨h1,h2⟩,h3⟩ := h;refine ⟨h1,fun j oj hj hl e he hb => ?_,fun t ht ht' => ?_⟩
 ·have h4 := h2 j (Array.getElem?_eq_some_iff.1 hj).1
  simp only [hj,Bool.or_eq_true,Bool.not_eq_true',hl,Bool.true_eq_false,false_or] at h4;have h5 := Array.all_eq_true_iff_forall_mem.1 h4 e he;simp only [Bool.or_eq_true,Bool.not_eq_true',hb,Bool.true_eq_false,false_or] at h5;exact h5
 ·rcases h3 t ht' with h4 | h4
  ·omega
  ·exact h4
theorem zCA {i : Nat} {oi : Oper} {v : Value} {fuel : Nat} {listed : Array Bool} {a : Act} {w : World} (hi : ops[i]? = some oi)
  (hok : (Region.noSelect ops && Region.free md ops listed i && (Region.ready md ops listed).contains i && Region.sinkB md ops n && Region.chainB md ops n && decide (n < ops.size) && decide (i < n) && zXH md ops n listed) = true)
  (hQ : ∀ c a w,Q (.panic c) (a.put oi.dst v) w → Q (.panic c) a w) (hy : YieldsIf P ops S oi v a) (hS : S w)
  (h : zuA P md ops Q S n fuel (listed.setIfInBounds i true) (a.put oi.dst v) w) : zuA P md ops Q S n (fuel + 1) listed a w := by
 simp only [Bool.and_eq_true,decide_eq_true_eq] at hok;obtain ⟨⟨⟨⟨⟨⟨⟨h1,h2⟩,h3⟩,h4⟩,h5⟩,h6⟩,h7⟩,h8⟩ := hok;exact wpAnyT_first hi (Region.noSelect_spec h1) hQ h4 h5 h6 h7 fuel listed a w (headB_spec h8) (Region.free_spec hi h2) (by simpa using h3) hy hS h
theorem zAA {i : Nat} {o : Oper} {fuel : Nat} {listed : Array Bool} {a : Act} {w : World} (hr : Region.ready md ops listed = [i]) (ho : ops[i]? = some o)
  (h : ∀ K' : Act → World → Prop,Shut (∀ a w,(i < n → S w) → zuA P md ops Q S n fuel (listed.setIfInBounds i true) a w → K' a w) → if Region.wanted o (yielded ops a.tmps) = true then Oper.wp P o a w K' Q else K' (a.put o.dst undef) w) :
  zuA P md ops Q S n (fuel + 1) listed a w := by
 refine ⟨fun h0 => (by rw [hr] at h0;cases h0),fun j hj => ?_⟩;rw [hr] at hj;obtain rfl := List.mem_singleton.1 hj;exact wpOp_step ho (fun K' hK => h K' (fun a w hS hW => hK a w ⟨hS,hW⟩))
theorem zQA {i j : Nat} {oi oj : Oper} {fuel : Nat} {listed : Array Bool} {a : Act} {w : World} (hr : Region.ready md ops listed = [i,j]) (hi : ops[i]? = some oi) (hj : ops[j]? = some oj)
  (h1 : ∀ K' : Act → World → Prop,Shut (∀ a w,(i < n → S w) → zuA P md ops Q S n fuel (listed.setIfInBounds i true) a w → K' a w) → if Region.wanted oi (yielded ops a.tmps) = true then Oper.wp P oi a w K' Q else K' (a.put oi.dst undef) w)
  (h2 : ∀ K' : Act → World → Prop,Shut (∀ a w,(j < n → S w) → zuA P md ops Q S n fuel (listed.setIfInBounds j true) a w → K' a w) → if Region.wanted oj (yielded ops a.tmps) = true then Oper.wp P oj a w K' Q else K' (a.put oj.dst undef) w) :
  zuA P md ops Q S n (fuel + 1) listed a w := by
 refine ⟨fun h0 => (by rw [hr] at h0;cases h0),fun q hq => ?_⟩;rw [hr] at hq;rcases List.mem_cons.1 hq with rfl | hq
 ·exact wpOp_step hi (fun K' hK => h1 K' (fun a w hS hW => hK a w ⟨hS,hW⟩))
 ·obtain rfl := List.mem_singleton.1 hq
  exact wpOp_step hj (fun K' hK => h2 K' (fun a w hS hW => hK a w ⟨hS,hW⟩))
theorem zDA {listed : Array Bool} {a : Act} {w : World} (hr : Region.ready md ops listed = []) (h : Q .normal a w) :
  ∀ fuel,zuA P md ops Q S n fuel listed a w
 | 0 => ⟨hr,h⟩
 | _ + 1 => ⟨fun _ => h,by rw [hr];simp⟩
theorem zFA (S : World → Prop) (n : Nat) {id : Nat} {a : Act} {w : World} (hm : P.follows .mixedOrders = true)
  (h : zuA P .any ops Q S n ops.size (Array.replicate ops.size false) a w.drew) : (Code.region id ops true).wp P Q a w :=
 wp_region_any hm (zZC _ _ _ _ h)
end
theorem cnow {w w' : World} {p : Addr} {v : Value} (h : Below w.heap.size w w') (k : w.cell? p = some v) : w'.cell? p = some v := (h.cell (World.block_lt_of_cell? w p k)).trans k
theorem zvE {xs : List Int} {i : Nat} (h : i < xs.length) : xs[i] = xs.getD i 0 := by simp [h]
def Prr (B : Nat) (w : World) (v : Value) (pss : List (List (Value × Value))) : Prop :=
 ∃ a c,v = .slice a pss.length c ∧ pss.length ≤ c ∧ pss.length ≤ 1048576 ∧ (pss = [] ∨ ∃ b off,a = some ⟨b,off,none⟩ ∧ b < w.heap.size ∧ ∀ (j : Nat) (ps : List (Value × Value)),pss[j]? = some ps → ∃ u,w.cell? ⟨b,off + j,none⟩ = some u ∧ Prs B w u ps)
theorem Prr.now {B : Nat} {w w' : World} {v : Value} {pss : List (List (Value × Value))} (h : Prr B w v pss) (hb : Below w.heap.size w w') : Prr B w' v pss := by
 obtain ⟨a,c,h1,h2,h3,h4⟩ := h;refine ⟨a,c,h1,h2,h3,?_⟩;rcases h4 with h4 | ⟨b,off,h5,h6,h7⟩
 ·exact .inl h4
 ·refine .inr ⟨b,off,h5,Nat.lt_of_lt_of_le h6 hb.size,fun j ps hp => ?_⟩
  obtain ⟨u,q1,q2⟩ := h7 j ps hp;exact ⟨u,(hb.cell (p := ⟨b,off + j,none⟩) h6).trans q1,q2.now hb⟩
theorem Prr.form {B : Nat} {w : World} {v : Value} {pss : List (List (Value × Value))} (h : Prr B w v pss) : ∃ a c,v = .slice a pss.length c ∧ pss.length ≤ c ∧ pss.length ≤ 1048576 ∧ (pss ≠ [] → ∃ b off,a = some ⟨b,off,none⟩) := by
 obtain ⟨a,c,h1,h2,h3,h4⟩ := h;refine ⟨a,c,h1,h2,h3,fun hne => ?_⟩;rcases h4 with h4 | ⟨b,off,h5,h6,h7⟩
 ·exact absurd h4 hne
 ·exact ⟨b,off,h5⟩
theorem Prr.at {B : Nat} {w : World} {b off l c : Nat} {pss : List (List (Value × Value))} (h : Prr B w (.slice (some ⟨b,off,none⟩) l c) pss) {i : Nat} {ps : List (Value × Value)} (hi : pss[i]? = some ps) : ∃ u,w.cell? ⟨b,off + i,none⟩ = some u ∧ Prs B w u ps := by
 obtain ⟨a',c',h1,h2,h3,h4⟩ := h;rcases h4 with h4 | ⟨b',off',h5,h6,h7⟩
 ·subst h4;simp at hi
 ·simp only [Value.slice.injEq] at h1
  obtain ⟨rfl,-,-⟩ := h1;simp only [Option.some.injEq,Addr.mk.injEq,and_true] at h5;obtain ⟨rfl,rfl⟩ := h5;exact h7 i ps hi
def FilR (wx : World) (g n i : Nat) (P : Nat → Value → Prop) : Prop := ∃ vs,zZH wx g vs ∧ vs.length = n ∧ (∀ u ∈ vs,NoW u) ∧ ∀ (j : Nat) (u : Value),j < i → vs[j]? = some u → P j u
theorem FilR.start {w : World} {g n : Nat} (h : zZH w g (List.replicate n (.slice none 0 0))) (P : Nat → Value → Prop) : FilR w g n 0 P := ⟨_,h,by simp,(fun u hu => by rw [List.eq_of_mem_replicate hu];exact noS _ _ _),fun j u hj => by omega⟩
theorem FilR.put {w : World} {g n i : Nat} {P P' : Nat → Value → Prop} {x : Value} (h : FilR w g n i P) (hi : i < n) (hP : ∀ j u,j < i → P j u → P' j u) (hx : P' i x) (hn : NoW x) : FilR (w.setCell ⟨g,i,none⟩ x) g n (i + 1) P' := by
 obtain ⟨vs,h1,h2,hw,h3⟩ := h;refine ⟨vs.set i x,h1.set i x,by simpa using h2,(fun u hu => by
  rcases List.mem_or_eq_of_mem_set hu with q | rfl
  ·exact hw u q
  ·exact hn),fun j u hj hu => ?_⟩
 by_cases q : j = i
 ·subst q
  rw [List.getElem?_set_self (by omega),Option.some.injEq] at hu;subst hu;exact hx
 ·rw [List.getElem?_set_ne (by omega)] at hu
  exact hP j u (by omega) (h3 j u (by omega) hu)
theorem FilR.blk {w : World} {g n i : Nat} {P : Nat → Value → Prop} (h : FilR w g n i P) : g < w.heap.size := by
 obtain ⟨vs,h1,h2,hw,h3⟩ := h;exact h1.blk
theorem FilR.wk {w : World} {g n i j : Nat} {P : Nat → Value → Prop} (h : FilR w g n i P) (hj : j < n) (x : Value) : Wk w (w.setCell ⟨g,j,none⟩ x) := by
 obtain ⟨vs,h1,h2,hw,h3⟩ := h;exact h1.wk (List.getElem?_eq_getElem (by omega)) (hw _ (List.getElem_mem (l := vs) (n := j) (by omega))) x
theorem FilR.cells {w : World} {g n i j : Nat} {P : Nat → Value → Prop} (h : FilR w g n i P) (hj : j < n) : ∃ u,w.cell? ⟨g,j,none⟩ = some u ∧ w.frozen? ⟨g,j,none⟩ = false := by
 obtain ⟨vs,h1,h2,hw,h3⟩ := h;exact ⟨vs[j]'(by omega),h1.at (List.getElem?_eq_getElem (by omega)),h1.fz _⟩
theorem zGF (w : World) (b off n c lo hi : Nat) (h : lo ≤ hi) (h1 : hi ≤ c) (h2 : lo < c) : (Instr.slice 22 (.slice (some ⟨b,off,none⟩) n c) (some (.int .i64 (lo : Int))) (some (.int .i64 (hi : Int))) none).run Tryz.prog w = .ok (.slice (some ⟨b,off + 2 * lo,none⟩) (hi - lo) (c - lo)) w := by
 have i3 : (lo : Int) ≤ (hi : Int) := by omega
 have i1 : (0 : Int) ≤ (lo : Int) := by omega
 have i2 : (0 : Int) ≤ (hi : Int) := by omega
 have i5 : (hi : Int) ≤ (c : Int) := by omega
 have i4 : ¬ c = lo := by omega
 go_simp
theorem zME (w : World) (a : Option Addr) (c : Nat) : (Instr.slice 22 (.slice a 0 c) (some (.int .i64 (0 : Int))) (some (.int .i64 (0 : Int))) none).run Tryz.prog w = .ok (.slice a 0 c) w := by
 have i5 : (0 : Int) ≤ (c : Int) := by omega
 rcases a with _ | ⟨b,off,sp⟩
 ·go_simp
 ·by_cases q : c = 0
  ·subst q;go_simp
  ·go_simp
def rowsL {α : Type} (r c : Nat) (ps : List α) : List (List α) := (List.range r).map fun i => (ps.drop (i * c)).take c
theorem zDG {α : Type} {r c i : Nat} {ps : List α} (h : i < r) : (rowsL r c ps)[i]? = some ((ps.drop (i * c)).take c) := by simp [rowsL,h]
abbrev matv (r c : Nat) (at_ : Value) : Value := .agg #[.int .i64 (r : Int),.int .i64 (c : Int),at_]
abbrev matc (r c : Nat) (at_ : Value) : List Value := [.int .i64 (r : Int),.int .i64 (c : Int),at_]
theorem cut_row {B : Nat} {w : World} {a : Option Addr} {n cap r c i : Nat} {ps : List (Value × Value)} (h : Prs B w (.slice a n cap) ps) (hl : ps.length = r * c) (hi : i < r) :
  ∃ a' cap',(∀ wx,(Instr.slice 22 (.slice a n cap) (some (.int .i64 ((i * c : Nat) : Int))) (some (.int .i64 (((i + 1) * c : Nat) : Int))) none).run Tryz.prog wx = .ok (.slice a' c cap') wx) ∧ Prs B w (.slice a' c cap') ((ps.drop (i * c)).take c) := by
 have h0 := h;obtain ⟨a',c',h1,h2,h3,-,h4⟩ := h;simp only [Value.slice.injEq] at h1;obtain ⟨rfl,rfl,rfl⟩ := h1
 by_cases hc : c = 0
 ·subst hc
  have e0 : ps = [] := List.eq_nil_of_length_eq_zero (by simpa using hl);subst e0;refine ⟨a,cap,fun wx => ?_,?_⟩
  ·simpa using zME wx a cap
  ·simpa using h0
 ·rcases h4 with rfl | ⟨b,off,rfl,h5',h6,h7⟩
  ·rcases Nat.mul_eq_zero.1 (show r * c = 0 by simpa using hl.symm) with q | q <;> omega
  ·have e1 : (i + 1) * c ≤ r * c := Nat.mul_le_mul_right c hi
   have e2 : (i + 1) * c = i * c + c := by rw [Nat.add_mul,Nat.one_mul]
   refine ⟨some ⟨b,off + i * c * 2,none⟩,cap - i * c,fun wx => ?_,h0.piece (by omega)⟩;have := zGF wx b off ps.length cap (i * c) ((i + 1) * c) (by omega) (by omega) (by omega);rw [show (i + 1) * c - i * c = c by omega,Nat.mul_comm 2] at this;exact this
def zMI (w0 w : World) (B : Nat) (at_ : Value) (g r c : Nat) (ps : List (Value × Value)) (gk : Nat) (s : Value) (wx : World) : Prop :=
 ∃ i : Nat,s = .int .i64 (i : Int) ∧ i ≤ r ∧ gk = r - i ∧ FilR wx g r i (fun j u => Prs B w0 u ((ps.drop (j * c)).take c)) ∧ Cel wx w.heap.size 24 (matc r c at_) ∧ Below w.heap.size w wx
def zAI (w0 w : World) (B r c : Nat) (ps : List (Value × Value)) (e : Ending) (w' : World) : Prop := ∃ g,e = .returned (.slice (some ⟨g,0,none⟩) r r) ∧ w.heap.size ≤ g ∧ g < w'.heap.size ∧ (∀ i,i < r → ∃ ai ci,w'.cell? ⟨g,i,none⟩ = some (.slice ai c ci) ∧ Prs B w0 (.slice ai c ci) ((ps.drop (i * c)).take c)) ∧ Below w.heap.size w w'
theorem zsB {i c : Nat} (hi : i ≤ 64) (hc : c ≤ 64) : IntKind.i64.wrap ((i : Int) * (c : Int)) = ((i * c : Nat) : Int) := by
 have h : i * c ≤ 64 * 64 := Nat.mul_le_mul hi hc;rw [show (i : Int) * (c : Int) = ((i * c : Nat) : Int) by simp];rw [zZA] <;> omega
theorem rowsOf_at {w0 w : World} {B r c : Nat} {at_ : Value} {ps : List (Value × Value)} (ha : Prs B w0 at_ ps) (hl : ps.length = r * c) (hr : r ≤ 64) (hc : c ≤ 64) :
  Calls Tryz.prog 53 #[matv r c at_] w (zAI w0 w B r c ps) := by
 have A0 := hid ha;obtain ⟨a0,c0,rfl,hc0,hn0,-,hf0⟩ := ha.form;obtain ⟨n,hn⟩ : ∃ n,ps.length = n := ⟨_,rfl⟩
 have HL := hid hl;rw [hn] at A0 hc0 hn0 ⊢;clear ha hf0 hl hn;obtain ⟨W0,hW⟩ : ∃ W0,w.alloc (.cells #[.int .i64 (r : Int),.int .i64 (c : Int),.slice a0 n c0] 24) = W0 := ⟨_,rfl⟩
 obtain ⟨b0,sz0⟩ := alo1 w (.cells #[.int .i64 (r : Int),.int .i64 (c : Int),.slice a0 n c0] 24);rw [hW] at b0 sz0;have P1 : Hid (Cel W0 w.heap.size 24 (matc r c (.slice a0 n c0))) := by unfold Hid;rw [← hW];exact Cel.new w _ _
 have c1 : (w.alloc (.cells #[.int .i64 (r : Int),.int .i64 (c : Int),.slice a0 n c0] 24)).cell? ⟨w.heap.size,0,none⟩ = some (.int .i64 (r : Int)) := by rw [hW];exact P1.out.at (i := 0) rfl
 have G0 := hid b0;have EW := hid hW;have SZ := hid sz0;clear b0 hW sz0;go_enter Tryz.func53,Tryz.ntmps53;go_wp2_with (at_make;rw [EW.out];refine wpList_make_rows _ rfl _ _ rfl _ _ r r rfl rfl rfl rfl (Nat.le_refl _) (by omega) ?_)
 intro w1 hrow hb1 hsz1;have H0 : Hid (zMI w0 w B (.slice a0 n c0) W0.heap.size r c ps r (.int .i64 0) w1) := ⟨0,rfl,Nat.zero_le _,by omega,FilR.start hrow _,P1.out.step hb1,below_step G0.out hb1⟩
 have HGE : Hid (w.heap.size < W0.heap.size) := by unfold Hid;rw [SZ.out];omega
 clear hrow hb1 hsz1 P1 G0 EW SZ c1;generalize W0.heap.size = g at *;go_wp2_with fail
 go_loopg [10] r (fun gk s10 wx => zMI w0 w B (.slice a0 n c0) g r c ps gk s10 wx)
 case atStart => exact H0.out
 case round =>
  clear H0;obtain ⟨i,rfl,hin,hg,hfil,hcel,hG⟩ := hrel;have FI := hid hfil;have P1 := hid hcel;have G := hid hG;have HG := hid hg;clear hfil hcel hG hg
  by_cases hlt : i < r
  ·have hlt' : (i : Int) < (r : Int) := by omega
   obtain ⟨a',cap',hs,hp⟩ := cut_row (i := i) (c := c) A0.out HL.out hlt;have HP := hid hp;have hw := zVA (i := i) (by omega);have hm0 := zsB (i := i) (c := c) (by omega) hc;have hm1 := zsB (i := i + 1) (c := c) (by omega) hc;rw [show ((i + 1 : Nat) : Int) = (i : Int) + 1 by omega] at hm1;have HN1 : Hid (zMI w0 w B (.slice a0 n c0) g r c ps (r - (i + 1)) (.int .i64 ((i + 1 : Nat) : Int)) (wr.setCell ⟨g,i,none⟩ (.slice a' c cap'))) :=
    ⟨i + 1,rfl,by omega,rfl,FI.out.put hlt (fun j u _ q => q) HP.out (noS _ _ _),P1.out.ne (by have := HGE.out;omega),bset G.out (by have := HGE.out;omega)⟩
   clear hp HP;generalize i * c = lo at *;generalize (i + 1) * c = hi at *;have hm2 := hm0;have hm3 := hm1;rw [IntKind.wrap_i64] at hm2 hm3;have k1 := P1.out.at (i := 1) rfl;have k2 := P1.out.at (i := 2) rfl;obtain ⟨u0,e0,e1⟩ := FI.out.cells hlt;have HMM : Hid (r - (i + 1) < gk) := by unfold Hid;rw [HG.out];omega
   clear FI P1 G HG;go_wp2_with fail;go_roundg (r - (i + 1))
   case rel => exact HN1.out
   case measure => exact HMM.out
  ·have hlt' : ¬ (i : Int) < (r : Int) := by omega
   obtain rfl : i = r := by omega
   have FIN : Hid (zAI w0 w B i c ps (.returned (.slice (some ⟨g,0,none⟩) i i)) wr) := by
    refine ⟨g,rfl,Nat.le_of_lt HGE.out,FI.out.blk,fun j hj => ?_,G.out⟩;obtain ⟨vs,h1,h2,-,h3⟩ := FI.out;have hv : vs[j]? = some (vs[j]'(by omega)) := List.getElem?_eq_getElem (by omega);have hp := h3 j _ hj hv;obtain ⟨aj,cj,ej,-,-,-,-⟩ := hp.form;have el : ((ps.drop (j * c)).take c).length = c := by
     have h5 : (j + 1) * c ≤ i * c := Nat.mul_le_mul_right c hj;have h6 : (j + 1) * c = j * c + c := by rw [Nat.add_mul,Nat.one_mul]
     have h7 := HL.out
     simp
     omega
    rw [el] at ej;refine ⟨aj,cj,?_,?_⟩
    ·rw [h1.at hv,ej]
    ·rw [ej] at hp;exact hp
   clear FI P1 G HG;go_wp2;go_ret;exact FIN.out
end Go.Proofs.YtmnecbniappnaaaGreat
