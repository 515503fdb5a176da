import Derived.Test.YtppddlbkdoebmaaQOverToGrow
set_option maxRecDepth 100000
set_option maxHeartbeats 6400000
set_option linter.unusedVariables false
set_option linter.unusedSimpArgs false
namespace Go.Proofs.Ytppddlbkdoebmaa
open Go.RowKit
def Blk (n : Nat) (U : Nat → Value) (g : Nat) : Prop := ∃ i,i < n ∧ (U i).ownBlock = some g
structure Bk (w : World) (bb gb n : Nat) (U : Nat → Value) (L : Nat → Nat) : Prop where
 n_le : n ≤ 2000000
 bb_lt : bb < w.heap.size
 gb_lt : gb < w.heap.size
 head : ∃ c,w.cell? ⟨bb,0,none⟩ = some (.slice (some ⟨gb,0,none⟩) n c)
 item : ∀ i,i < n → w.cell? ⟨gb,i,none⟩ = some (U i)
 own : ∀ i,i < n → ∃ zs,zs.length = L i ∧ Ow w (U i) zs
 len : ∀ i,i < n → L i ≤ 1000000000
 apart : ∀ i j,i < n → j < n → i ≠ j → ∀ g,(U i).ownBlock = some g → (U j).ownBlock ≠ some g
 bb_free : ¬ Blk n U bb
 gb_free : ¬ Blk n U gb
theorem Bk.lt {w : World} {bb gb n : Nat} {U : Nat → Value} {L : Nat → Nat} (h : Bk w bb gb n U L) {i g : Nat} (hi : i < n) (hg : (U i).ownBlock = some g) : g < w.heap.size := by
 obtain ⟨zs,_,ho⟩ := h.own i hi;exact ho.lt hg
def zZB (w wr : World) (n : Nat) (U : Nat → Value) (L : Nat → Nat) (k j : Nat) : Prop :=
 zYA (Blk n U) w wr ∧ ∀ i,i < n → ∃ zs,zs.length = L i ∧ Ow wr (U i) zs ∧ (i < k → zs = zvA i (L i)) ∧ (i = k → ∀ t (h : t < zs.length),t < j → zs[t] = zUB k t)
theorem Bk.marking {w : World} {bb gb n : Nat} {U : Nat → Value} {L : Nat → Nat} (h : Bk w bb gb n U L) : zZB w w n U L 0 0 :=
 ⟨zYA.refl _ _,fun i hi => by obtain ⟨zs,h1,h2⟩ := h.own i hi;exact ⟨zs,h1,h2,fun q => by omega,fun _ t _ q => by omega⟩⟩
theorem zZB.next {w wr : World} {n : Nat} {U : Nat → Value} {L : Nat → Nat} {k j : Nat} (h : zZB w wr n U L k j) (hj : L k ≤ j) : zZB w wr n U L (k + 1) 0 :=
 ⟨h.1,fun i hi => by
  obtain ⟨zs,h1,h2,h3,h4⟩ := h.2 i hi;refine ⟨zs,h1,h2,fun q => ?_,fun _ t _ q => by omega⟩
  by_cases e : i = k
  ·subst e
   exact List.ext_getElem (by rw [h1,zCC]) (fun t q1 q2 => by rw [zaD];exact h4 rfl t q1 (by omega))
  ·exact h3 (by omega)⟩
theorem zZB.step {w wr : World} {bb gb n : Nat} {U : Nat → Value} {L : Nat → Nat} {k j g : Nat} (hB : Bk w bb gb n U L) (h : zZB w wr n U L k j) (hk : k < n) (hg : (U k).ownBlock = some g) :
  zZB w (wr.setCell ⟨g,j,none⟩ (.int .u64 (zUB k j))) n U L k (j + 1) :=
 ⟨h.1.setCell (.inr ⟨k,hk,hg⟩) _ _,fun i hi => by
  obtain ⟨zs,h1,h2,h3,h4⟩ := h.2 i hi
  by_cases e : i = k
  ·subst e
   refine ⟨zs.set j (zUB i j),by simpa using h1,h2.set hg j _,fun q => by omega,fun _ t ht q => ?_⟩
   by_cases e : j = t
   ·subst e;simp
   ·rw [List.getElem_set_ne e];exact h4 rfl t (by simpa using ht) (by omega)
  ·exact ⟨zs,h1,h2.keep fun b hb => Below.heap_setCell wr _ _ b (fun q => hB.apart i k hi hk e b hb (by rw [hg];exact congrArg some q.symm)),h3,fun q => absurd q e⟩⟩
def RowS (w : World) (g : Nat) (L : List Value) : Prop := w.heap[g]? = some (.cells L.toArray 25 (0,0))
theorem RowS.lt {w : World} {g : Nat} {L : List Value} (h : RowS w g L) : g < w.heap.size := (Array.getElem?_eq_some_iff.1 h).1
theorem RowS.cell {w : World} {g : Nat} {L : List Value} (h : RowS w g L) {i : Nat} (hi : i < L.length) : w.cell? ⟨g,i,none⟩ = some L[i] := by
 unfold RowS at h;simp [World.cell?,h,hi]
theorem RowS.frozen {w : World} {g : Nat} {L : List Value} (h : RowS w g L) (i : Nat) : w.frozen? ⟨g,i,none⟩ = false := by
 unfold RowS at h;simp [World.frozen?,h]
theorem RowS.set {w : World} {g : Nat} {L : List Value} (h : RowS w g L) (i : Nat) (u : Value) : RowS (w.setCell ⟨g,i,none⟩ u) g (L.set i u) := by
 unfold RowS at h ⊢;simp [World.setCell,Array.getElem?_modify,h]
theorem Try.infoS : (Try.prog.info? 25).map (fun i => (i.zero,i.size,i.bytes)) = some (some (.slice none 0 0),1,24) := by kernel_rfl
theorem madeCells_lists (m : Nat) : madeCells (Value.slice none 0 0).cells m = (List.replicate m (Value.slice none 0 0)).toArray := by
 apply Array.ext
 ·simp [size_madeCells]
 ·intro i h1 h2
  simp [madeCells,Value.cells,Nat.mod_one]
theorem wpList_make_lists (w : World) {ops : Array Oper} {rest : List Oper} {o : Oper} {a : Act} {Q : Exit → Act → World → Prop}
  (hg : o.guard = none) (l c : Operand) (hop : o.op = Op.makeSlice 41 l c)
  (L C : Int) (n m : Nat) (hl : a.eval l = .int .i64 L) (hc : a.eval c = .int .i64 C) (hL : L = (n : Int)) (hC : C = (m : Int)) (hnm : n ≤ m) (hm : m ≤ 2000000)
  (hK : ∀ w',RowS w' w.heap.size (List.replicate m (.slice none 0 0)) → Below w.heap.size w w' → Hid (w'.heap.size = w.heap.size + 1) → wpList Try.prog ops Q rest (a.put o.dst (.slice (some ⟨w.heap.size,0,none⟩) n m)) w') :
  wpList Try.prog ops Q (o :: rest) a w := by
 refine wpList_plain hg fun K hK' => ?_
 obtain ⟨i,hi,hz,hs,hb⟩ := info_parts Try.infoS;have hrun := run_make (P := Try.prog) w 41 25 i (.slice none 0 0) Try.underlying41 hi hz .i64 .i64 n m (by omega) (by omega) (by rw [hb];omega) (by omega);subst hL;subst hC;rw [hs,Nat.mul_one,Int.toNat_natCast,Int.toNat_natCast,madeCells_lists] at hrun;unfold Oper.wp;simp [execOp,hop,hl,hc,hrun,Result.andThen];refine hK' _ _ (hK _ ?_ ((Below.refl _ _).alloc (Nat.le_refl _) _) ?_)
 ·unfold RowS;simpa using heap_alloc_new w _
 ·unfold Hid;simp
def zCG (w wr : World) (n : Nat) (U : Nat → Value) (L : Nat → Nat) (gg k : Nat) (Vs : List Value) : Prop :=
 zYA (Blk n U) w wr ∧ w.heap.size ≤ gg ∧ RowS wr gg Vs ∧ Vs.length = n ∧ (∀ i,i < n → Ow wr (U i) (zvA i (L i))) ∧
 ∀ i (h : i < Vs.length),i < k → Ow wr Vs[i] (zvA i (L i + 80)) ∧ (Vs[i].ownBlock = (U i).ownBlock ∨ ∃ g,Vs[i].ownBlock = some g ∧ w.heap.size ≤ g ∧ g ≠ gg)
def zNC (w wr : World) (n : Nat) (U : Nat → Value) (L : Nat → Nat) (gg k j : Nat) (Vs : List Value) (c : Value) : Prop :=
 zCG w wr n U L gg k Vs ∧ Ow wr c (zvA k (L k + j)) ∧ (c.ownBlock = (U k).ownBlock ∨ ∃ g,c.ownBlock = some g ∧ w.heap.size ≤ g ∧ g ≠ gg ∧ ∀ i (h : i < Vs.length),i < k → Vs[i].ownBlock ≠ some g)
theorem zZB.grown {w wr w2 : World} {n : Nat} {U : Nat → Value} {L : Nat → Nat} {k j : Nat} (h : zZB w wr n U L k j) (hk : n ≤ k) (hr : RowS w2 wr.heap.size (List.replicate n (.slice none 0 0))) (hb : Below wr.heap.size wr w2) :
  zCG w w2 n U L wr.heap.size 0 (List.replicate n (.slice none 0 0)) :=
 ⟨h.1.trans (.ofBelow hb),h.1.size,hr,by simp,fun i hi => by
  obtain ⟨zs,h1,h2,h3,_⟩ := h.2 i hi;rw [← h3 (by omega)];exact h2.keep fun g hg => hb.block g (h2.lt hg),fun i _ q => by omega⟩
theorem zCG.start {w wr : World} {n : Nat} {U : Nat → Value} {L : Nat → Nat} {gg k : Nat} {Vs : List Value} (h : zCG w wr n U L gg k Vs) (hk : k < n) : zNC w wr n U L gg k 0 Vs (U k) :=
 ⟨h,h.2.2.2.2.1 k hk,.inl rfl⟩
theorem signs_prefix (i n j : Nat) : zvA i n <+: zvA i (n + j) := by
 unfold zvA;rw [List.range_add,List.map_append];exact List.prefix_append _ _
theorem zNC.step {w wr w1 w2 : World} {bb gb n : Nat} {U : Nat → Value} {L : Nat → Nat} {gg k j : Nat} {Vs : List Value} {c v' : Value} (hB : Bk w bb gb n U L) (h : zNC w wr n U L gg k j Vs c) (hk : k < n)
  (h1 : Below wr.heap.size wr w1) (ho : Ow w2 v' (zvA k (L k + j) ++ [zUB k (L k + j)])) (hat : v'.ownBlock = c.ownBlock ∨ ∃ g,v'.ownBlock = some g ∧ w1.heap.size ≤ g) (hgr : w1.grownBy w2 c.ownBlock)
  (hpre : ∀ u ys,Ow w1 u ys → ys <+: zvA k (L k + j) → u.ownBlock = c.ownBlock → Ow w2 u ys) : zNC w w2 n U L gg k (j + 1) Vs v' := by
 obtain ⟨⟨ht,hgg,hr,hl,hU,hV⟩,hc,hcb⟩ := h;have old : ∀ b,b < wr.heap.size → c.ownBlock ≠ some b → w2.heap[b]? = wr.heap[b]? := fun b hb hne =>
  (hgr.block b (Nat.lt_of_lt_of_le hb h1.size) (fun e => hne e.symm)).trans (h1.block b hb)
 have keep : ∀ {u ys},Ow wr u ys → (∀ g,u.ownBlock = some g → c.ownBlock ≠ some g) → Ow w2 u ys := fun hu hne => hu.keep fun g hg => old g (hu.lt hg) (hne g hg)
 have hcS : ∀ g,c.ownBlock = some g → w.heap.size ≤ g ∨ Blk n U g := fun g hg => by
  rcases hcb with e | ⟨g',e,q,_⟩
  ·exact .inr ⟨k,hk,e ▸ hg⟩
  ·rw [hg] at e;cases e;exact .inl q
 have hUV : ∀ i (h : i < Vs.length),i < k → ∀ g,Vs[i].ownBlock = some g → c.ownBlock ≠ some g := fun i hi hik g hg e => by
  rcases hcb with q | ⟨g',q,_,_,q4⟩
  ·have hk' : (U k).ownBlock = some g := q ▸ e
   rcases (hV i hi hik).2 with r | ⟨g2,r,r2,_⟩
   ·exact hB.apart i k (by omega) hk (by omega) g (r ▸ hg) hk'
   ·rw [hg] at r;cases r
    have := hB.lt hk hk';omega
  ·rw [e] at q;cases q
   exact q4 i hi hik hg
 refine ⟨⟨(ht.trans (.ofBelow h1)).grown hgr hcS,hgg,?_,hl,fun i hi => ?_,fun i hi hik => ?_⟩,?_,?_⟩
 ·refine (old gg hr.lt fun e => ?_).trans hr
  rcases hcb with q | ⟨g',q,_,q3,_⟩
  ·have := hB.lt hk (q ▸ e : (U k).ownBlock = some gg)
   omega
  ·rw [e] at q;cases q;exact q3 rfl
 ·by_cases e : i = k
  ·subst e
   by_cases q : c.ownBlock = (U i).ownBlock
   ·exact hpre _ _ ((hU i hi).keep fun g hg => h1.block g ((hU i hi).lt hg)) (signs_prefix _ _ _) q.symm
   ·exact keep (hU i hi) fun g hg q2 => q (q2.trans hg.symm)
  ·refine keep (hU i hi) fun g hg q => ?_
   rcases hcb with q2 | ⟨g',q2,q3,_⟩
   ·exact hB.apart i k hi hk e g hg (q2 ▸ q)
   ·rw [q] at q2;cases q2
    have := hB.lt hi hg;omega
 ·exact ⟨keep (hV i hi hik).1 (hUV i hi hik),(hV i hi hik).2⟩
 ·rw [← Nat.add_assoc,signs_succ];exact ho
 ·rcases hat with e | ⟨g,e,q⟩
  ·rw [e];exact hcb
  ·refine .inr ⟨g,e,?_,?_,fun i hi hik q2 => ?_⟩
   ·exact Nat.le_trans ht.size (Nat.le_trans h1.size q)
   ·have := hr.lt;have := h1.size;omega
   ·have := (hV i hi hik).1.lt q2;have := h1.size;omega
theorem zNC.store {w wr : World} {bb gb n : Nat} {U : Nat → Value} {L : Nat → Nat} {gg k : Nat} {Vs : List Value} {c : Value} (hB : Bk w bb gb n U L) (h : zNC w wr n U L gg k 80 Vs c) (hk : k < n) :
  zCG w (wr.setCell ⟨gg,k,none⟩ c) n U L gg (k + 1) (Vs.set k c) := by
 obtain ⟨⟨ht,hgg,hr,hl,hU,hV⟩,hc,hcb⟩ := h;have keep : ∀ {u ys},Ow wr u ys → (∀ g,u.ownBlock = some g → g ≠ gg) → Ow (wr.setCell ⟨gg,k,none⟩ c) u ys := fun hu hne => hu.keep fun g hg => Below.heap_setCell wr _ _ g (hne g hg)
 have hUg : ∀ i,i < n → ∀ g,(U i).ownBlock = some g → g ≠ gg := fun i hi g hg => by have := hB.lt hi hg;omega
 refine ⟨ht.setCell (.inl hgg) _ _,hgg,hr.set k c,by simpa using hl,fun i hi => keep (hU i hi) (hUg i hi),fun i hi hik => ?_⟩
 by_cases e : i = k
 ·subst e
  simp only [List.getElem_set_self];refine ⟨keep hc fun g hg => ?_,?_⟩
  ·rcases hcb with q | ⟨g',q,_,q3,_⟩
   ·exact hUg i hk g (q ▸ hg)
   ·rw [hg] at q;cases q;exact q3
  ·rcases hcb with q | ⟨g',q,q2,q3,_⟩
   ·exact .inl q
   ·exact .inr ⟨g',q,q2,q3⟩
 ·have hi' : i < Vs.length := by simpa using hi
  rw [List.getElem_set_ne (fun q => e q.symm)];obtain ⟨h1,h2⟩ := hV i hi' (by omega);refine ⟨keep h1 fun g hg => ?_,h2⟩;rcases h2 with q | ⟨g',q,_,q3⟩
  ·exact hUg i (by omega) g (q ▸ hg)
  ·rw [hg] at q;cases q;exact q3
end Go.Proofs.Ytppddlbkdoebmaa
