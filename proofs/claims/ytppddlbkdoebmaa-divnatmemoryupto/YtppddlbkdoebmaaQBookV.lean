import Derived.Test.YtppddlbkdoebmaaQKd0
import Derived.Test.YtppddlbkdoebmaaQExact0ToRDivMod
import Derived.Deep.AppendLies
set_option maxRecDepth 100000
set_option maxHeartbeats 6400000
set_option linter.unusedVariables false
set_option linter.unusedSimpArgs false
namespace Go.Proofs.Ytppddlbkdoebmaa
open Go.RowKit
def Bv (B : Nat) (w : World) (bb : Nat) (v : Value) (Us : List Value) : Prop :=
 bb < B ∧ B ≤ w.heap.size ∧ w.heap[bb]? = some (.cells #[v,.slice none 0 0,.slice none 0 0] 45 (0,0)) ∧ w.ownsRow B 25 1 v Us.length Us
theorem Bv.own {B : Nat} {w : World} {bb : Nat} {v : Value} {Us : List Value} (h : Bv B w bb v Us) {g : Nat} (hg : v.ownBlock = some g) : B ≤ g ∧ g < w.heap.size := World.ownsRow.lt h.2.2.2 g hg
theorem Bv.keep {B : Nat} {w w' : World} {bb : Nat} {v : Value} {Us : List Value} (h : Bv B w bb v Us) (k : Below w.heap.size w w') : Bv B w' bb v Us := by
 obtain ⟨h1,h2,h3,h4⟩ := h;refine ⟨h1,Nat.le_trans h2 k.size,(k.block bb (Nat.lt_of_lt_of_le h1 h2)).trans h3,?_⟩;obtain ⟨k0,k1 | ⟨g',cap',cur,k1,k2,k3,k4⟩⟩ := h4
 ·exact ⟨k0,.inl k1⟩
 ·exact ⟨k0,.inr ⟨g',cap',cur,k1,k2,(k.block g' ((Array.getElem?_eq_some_iff.1 k3).1)).trans k3,k4⟩⟩
theorem zYA.sub3 {S S' : Nat → Prop} {w w' : World} (h : zYA S w w') (hS : ∀ b,S b → S' b) : zYA S' w w' := ⟨h.os,h.tape,h.output,h.size,fun k hk hn => h.block k hk fun q => hn (hS k q)⟩
theorem Bv.more {B : Nat} {w w1 w2 : World} {bb g cap : Nat} {Us : List Value} {v u : Value} (hb : bb < B) (hB : B ≤ w.heap.size) (hv : w.heap[bb]? = some (.cells #[v,.slice none 0 0,.slice none 0 0] 45 (0,0)))
  (ho : w.ownsRow B 25 1 v Us.length Us) (h1 : Below w.heap.size w w1) (h2 : w2.ownsRow B 25 1 (.slice (some ⟨g,0,none⟩) (Us.length + 1) cap) (Us.length + 1) (Us ++ [u])) (h3 : w1.grownBy w2 v.ownBlock) :
  w2.cell? ⟨bb,0,none⟩ = some v ∧ w2.frozen? ⟨bb,0,none⟩ = false ∧ Bv B (w2.setCell ⟨bb,0,none⟩ (.slice (some ⟨g,0,none⟩) (Us.length + 1) cap)) bb (.slice (some ⟨g,0,none⟩) (Us.length + 1) cap) (Us ++ [u]) ∧ zYA (fun k => k = bb ∨ v.ownBlock = some k) w (w2.setCell ⟨bb,0,none⟩ (.slice (some ⟨g,0,none⟩) (Us.length + 1) cap)) := by
 have hlt : bb < w.heap.size := (Array.getElem?_eq_some_iff.1 hv).1;have hne : some bb ≠ v.ownBlock := fun e => by
  obtain ⟨_,⟨k1,_⟩ | ⟨g',cap',cur,k1,_,k3,_⟩⟩ := ho
  ·rw [k1] at e;cases e
  ·rw [k1] at e
   obtain rfl : bb = g' := by simpa [Value.ownBlock] using e
   have := hv.symm.trans k3;simp at this
 have hv1 := (h1.block bb hlt).trans hv;have hv2 := (h3.block bb (Nat.lt_of_lt_of_le hlt h1.size) hne).trans hv1;have hgb : g ≠ bb := fun e => by
  subst e;obtain ⟨_,⟨k1,_⟩ | ⟨g',cap',cur,k1,_,k3,_⟩⟩ := h2
  ·cases k1
  ·obtain rfl : g = g' := by first | (simp at k1;done) | (simp at k1;exact k1.1)
   have := hv2.symm.trans k3;simp at this
 refine ⟨by simp [World.cell?,hv2],by simp [World.frozen?,hv2],⟨hb,?_,?_,?_⟩,?_⟩
 ·have h4 := h1.size
  have h5 := h3.size
  simp
  omega
 ·rw [heap_setCell_same w2 bb 0 _ _ _ hv2]
  first | rfl | simp
 ·obtain ⟨k0,⟨k1,_⟩ | ⟨g',cap',cur,k1,k2,k3,k4⟩⟩ := h2
  ·cases k1
  ·obtain rfl : g = g' := by first | (simp at k1;done) | (simp at k1;exact k1.1)
   refine ⟨by simp,.inr ⟨g,cap',cur,by simpa using k1,k2,?_,by simpa using k4⟩⟩;rw [heap_setCell_other w2 _ g _ hgb];exact k3
 ·refine ⟨h3.os.trans h1.os,h3.tape.trans h1.tape,h3.output.trans h1.output,Nat.le_trans h1.size (Nat.le_trans h3.size (by simp)),fun k hk hn => ?_⟩
  rw [heap_setCell_other w2 _ k _ (fun e => hn (.inl e)),h3.block k (Nat.lt_of_lt_of_le hk h1.size) (fun e => hn (.inr e.symm))];exact h1.block k hk
theorem bookV_any {B : Nat} {w : World} {bb : Nat} {v : Value} {Us : List Value} {a : Option Addr} {n c : Nat} (h : Bv B w bb v Us) (hl : Us.length ≤ 2000000) :
  Calls Try.prog 16 #[.pointer (some ⟨bb,0,none⟩),.slice a n c] w fun e w' => e = .returned (.tuple #[]) ∧ (∃ v',Bv B w' bb v' (Us ++ [.slice a n c])) ∧ zYA (fun k => k = bb ∨ v.ownBlock = some k) w w' := by
 obtain ⟨hb,hBs,hv,ho⟩ := h;have HBB := hid hBs;obtain ⟨i,hi,hz,hsz,hby⟩ := info_parts Try.infoS;have HB := hid hb;have HV := hid hv;have HO := hid ho;have hc0 : w.cell? ⟨bb,0,none⟩ = some v := by simp [World.cell?,hv]
 have HB1 := hid ((Below.refl w.heap.size w).alloc (Nat.le_refl _) (.cells #[.slice a n c] 25));have HO1 : Hid ((w.alloc (.cells #[.slice a n c] 25)).ownsRow B 25 1 v Us.length Us) := by
  obtain ⟨k0,k1 | ⟨g',cap',cur,k1,k2,k3,k4⟩⟩ := ho
  ·exact ⟨k0,.inl k1⟩
  ·exact ⟨k0,.inr ⟨g',cap',cur,k1,k2,(HB1.out.block g' ((Array.getElem?_eq_some_iff.1 k3).1)).trans k3,k4⟩⟩
 have HML : Hid (Us.length + 1 ≤ maxLen) := by unfold Hid maxLen;omega
 have HBY : Hid ((Us.length + 1) * 24 ≤ 140737488355328) := by unfold Hid;omega
 have HBS : Hid (B ≤ (w.alloc (.cells #[.slice a n c] 25)).heap.size) := by unfold Hid;simp;omega
 have HN : Hid (∀ j u,([.slice a n c] : List Value)[j]? = some u → (w.alloc (.cells #[.slice a n c] 25)).cell? ((⟨w.heap.size,0,none⟩ : Addr).add j) = some u) := fun j u hj => by
  match j,hj with
  | 0,hj =>
   simp at hj;subst hj;have e : (⟨w.heap.size,0,none⟩ : Addr).add 0 = ⟨w.heap.size,0,none⟩ := rfl;rw [e];unfold World.cell?;rw [heap_alloc_new]
   rfl
 clear hb hv ho hBs;go_enter Try.func16,Try.ntmps16;go_wp2_with (at_builtin;refine wpList_append_lies _ rfl (.tmp 8) (.tmp 10) 41 rfl B 25 i (.slice none 0 0) 1 24 Try.underlying41 hi hz hsz hby rfl (by omega) v Us.length Us rfl HO1.out ⟨w.heap.size,0,none⟩ 1 1 [.slice a n c] rfl rfl HN.out (fun u hu => by simp at hu;subst hu;rfl) (by omega) HML.out HBY.out HBS.out (w.heap.size + 1) (by simp) ?_)
 intro g cap w2 h2 h3 h4 h5;obtain ⟨m1,m2,m3,m4⟩ := Bv.more HB.out HBB.out HV.out HO.out HB1.out h2 h3;have M3 := hid m3;have M4 := hid m4;clear m3 m4 h2 h3 h4 h5;go_wp2;go_end0;exact ⟨rfl,⟨_,M3.out⟩,M4.out⟩
structure Tw (w : World) (D : Nat) (Us : List Value) (wr : World) : Prop where
 be : Below w.heap.size w wr
 ow : ∀ i (h : i < Us.length),∃ zs,zs.length ≤ 1000000000 ∧ Ow wr Us[i] zs
 ap : Us.Pairwise fun a b => ∀ g,a.ownBlock = some g → b.ownBlock ≠ some g
 lo : ∀ u ∈ Us,∀ g,u.ownBlock = some g → w.heap.size ≤ g ∧ g < D
 wD : w.heap.size ≤ D
theorem Tw.touch {w wr w' : World} {D : Nat} {Us : List Value} {S : Nat → Prop} (h : Tw w D Us wr) (k : zYA S wr w') (hS : ∀ j,S j → D ≤ j) : Tw w D Us w' := by
 obtain ⟨h1,h2,h3,h4,h5⟩ := h;refine ⟨⟨k.os.trans h1.os,k.tape.trans h1.tape,k.output.trans h1.output,Nat.le_trans h1.size k.size,fun j hj => (k.block j (Nat.lt_of_lt_of_le hj h1.size) (fun e => by have := hS j e;omega)).trans (h1.block j hj)⟩,fun i hi => ?_,h3,h4,h5⟩;obtain ⟨zs,l,o⟩ := h2 i hi;refine ⟨zs,l,o.keep fun g hg => k.block g (o.lt hg) (fun e => ?_)⟩;have := hS g e;have := (h4 _ (List.getElem_mem hi) g hg).2;omega
theorem Tw.step {w wr w' : World} {D : Nat} {Us : List Value} (h : Tw w D Us wr) (k : Below wr.heap.size wr w') (hD : D ≤ wr.heap.size) : Tw w D Us w' := h.touch (zYA.ofBelow (S := fun _ => False) k) (fun _ e => e.elim)
theorem apartV {w wr : World} {B D bb : Nat} {v : Value} {Us : List Value} (h : Tw w D Us wr) (hb : Bv B wr bb v Us) (hD : D ≤ bb) (hn : 0 < Us.length) (hl : Us.length ≤ 2000000) :
  Calls Try.prog 17 #[.pointer (some ⟨bb,0,none⟩)] wr fun e w' => e = .returned (.bool true) ∧ Below w.heap.size w w' := by
 obtain ⟨h1,h2,h3,h4,h5⟩ := h;obtain ⟨b1,b2,b3,b4⟩ := hb;have b4' := b4;obtain ⟨k0,⟨k1,k2⟩ | ⟨g,cap,cur,k1,k2,k3,k4,k5,k6,k7⟩⟩ := b4
 ·omega
 let L : Nat → Nat := fun i => if q : i < Us.length then (Classical.choose (h2 i q)).length else 0
 have hL : ∀ i (q : i < Us.length),L i = (Classical.choose (h2 i q)).length := fun i q => dif_pos q
 have eg : ∀ i (hi : i < Us.length),Us.getD i (.slice none 0 0) = Us[i] := fun i hi => by simp [hi]
 have blk : ∀ j,Blk Us.length (fun i => Us.getD i (.slice none 0 0)) j → w.heap.size ≤ j ∧ j < D := fun j ⟨i,hi,e⟩ => by
  dsimp only at e;rw [eg i hi] at e;exact h4 _ (List.getElem_mem hi) j e
 have hap := List.pairwise_iff_getElem.1 h3;have hBk : Bk wr bb g Us.length (fun i => Us.getD i (.slice none 0 0)) L := by
  refine ⟨hl,Nat.lt_of_lt_of_le b1 b2,(Array.getElem?_eq_some_iff.1 k3).1,⟨cap,?_⟩,fun i hi => ?_,fun i hi => ?_,fun i hi => ?_,fun i j hi hj hij g' e => ?_,fun q => ?_,fun q => ?_⟩
  ·rw [← k1];simp [World.cell?,b3]
  ·have := World.ownsRow.cells b4' (g := g) (by rw [k1];rfl) i Us[i] (by simp [hi])
   rw [add_head] at this;rw [this,eg i hi]
  ·rw [eg i hi]
   exact ⟨_,(hL i hi).symm,(Classical.choose_spec (h2 i hi)).2⟩
  ·rw [hL i hi];exact (Classical.choose_spec (h2 i hi)).1
  ·rw [eg i hi] at e
   rw [eg j hj];rcases Nat.lt_or_gt_of_ne hij with q | q
   ·exact hap i j hi hj q g' e
   ·exact fun e' => hap j i hj hi q g' e' e
  ·have := blk _ q;omega
  ·have := blk _ q;omega
 refine (apart_yes hBk (by simp [World.cell?,b3]) (by simp [World.cell?,b3])).mono fun e w' ⟨e1,k⟩ => ⟨e1,?_⟩
 exact ⟨k.os.trans h1.os,k.tape.trans h1.tape,k.output.trans h1.output,Nat.le_trans h1.size k.size,fun j hj => (k.block j (Nat.lt_of_lt_of_le hj h1.size) (fun e => by have := blk j e;omega)).trans (h1.block j hj)⟩
theorem Rm.owAll {w : World} {g n : Nat} {xs : List Int} (h : Rm w g xs) (hn : xs.length = n) (hl : n ≤ 1048576) : ∃ zs,zs.length ≤ 1000000000 ∧ Ow w (.slice (some ⟨g,0,none⟩) (n + 80) (n + 80)) zs := by
 have hr : Row w g (ws (zAB xs) ++ []) := by rw [List.append_nil];exact h
 have e : (zAB xs).length = n + 80 := by rw [zDC,hn]
 have := hr.ow (by simp;omega);rw [e] at this;exact ⟨_,by omega,this⟩
theorem Bv.sub {B : Nat} {w w0 w' : World} {bb : Nat} {v : Value} {Us : List Value} (h : Bv B w bb v Us) (k : zYA (fun j => j = bb ∨ v.ownBlock = some j) w0 w') : zYA (fun j => j = bb ∨ B ≤ j) w0 w' :=
 k.sub3 fun b e => e.imp id fun q => (h.own q).1
theorem bv_start {B bb : Nat} {w : World} (h : w.heap[bb]? = some (.cells #[.slice none 0 0,.slice none 0 0,.slice none 0 0] 45 (0,0))) (h1 : bb < B) (h2 : B ≤ w.heap.size) : Bv B w bb (.slice none 0 0) [] := ⟨h1,h2,h,World.ownsRow_nil _ _ _ _⟩
theorem zJC {B bb : Nat} {w w' : World} {v : Value} {Us : List Value} {o : Obj} (h : Bv B w bb v Us) (k : zYA (fun j => j = bb ∨ v.ownBlock = some j) (w.alloc o) w') : w'.heap[w.heap.size]? = some o :=
 (k.block w.heap.size (by simp) (fun e => by
  rcases e with e | e
  ·have := h.1;have := h.2.1;omega
  ·have := (h.own e).2;omega)).trans (heap_alloc_new w o)
abbrev opZ : Obj := opOf 0 (.slice none 0 0) (.slice none 0 0) 0 0
theorem znG {w : World} {b : Nat} {o : Obj} (h : w.heap[b]? = some o) : b < w.heap.size := (Array.getElem?_eq_some_iff.1 h).1
theorem zWD {w : World} {b : Nat} {cs : Array Value} {t : TypeId} (h : w.heap[b]? = some (.cells cs t (0,0))) : w.frozen? ⟨b,0,none⟩ = false ∧ w.frozen? ⟨b,1,none⟩ = false ∧ w.frozen? ⟨b,2,none⟩ = false ∧ w.frozen? ⟨b,3,none⟩ = false ∧ w.frozen? ⟨b,4,none⟩ = false := by simp [World.frozen?,h]
theorem zLE {w : World} {v : Value} {xs : List Int} (h : Sl w.heap.size w v xs) (hlen : xs.length ≤ 8796093022208) :
  Calls Try.prog 15 #[v] w fun e w' => ∃ a m c,e = .returned (.slice a m c) ∧ Own w.heap.size w' (.slice a m c) (lst xs) ∧ Below w.heap.size w w' :=
 (rleast_any h hlen).mono fun e w' ⟨zs,r,h1,h2,h3,h4,h5⟩ => by
  obtain rfl : zs = lst xs := canon_inj h3 (canon_lst h.1) (by rw [h4,val_lst]);obtain ⟨a,c,rfl⟩ := h2.form;exact ⟨a,_,c,h1,h2,h5⟩
theorem zgF {B b : Nat} {w : World} {v : Value} {zs : List Int} {cs : Array Value} (h : Own B w v zs) (hz : w.heap[b]? = some (.cells cs 28 (0,0))) (x0 x1 x2 x3 x4 : Value) : Own B (((((w.setCell ⟨b,0,none⟩ x0).setCell ⟨b,1,none⟩ x1).setCell ⟨b,2,none⟩ x2).setCell ⟨b,3,none⟩ x3).setCell ⟨b,4,none⟩ x4) v zs := by
 obtain ⟨h0,h1 | ⟨g,r,h1,h2,h3,h4⟩⟩ := h
 ·exact ⟨h0,.inl h1⟩
 ·have hg : g ≠ b := fun e => by
   subst e;have := hz.symm.trans h4;simp at this
  refine ⟨h0,.inr ⟨g,r,h1,h2,h3,?_⟩⟩;unfold Row;rw [heap_setCell_other _ _ _ _ hg,heap_setCell_other _ _ _ _ hg,heap_setCell_other _ _ _ _ hg,heap_setCell_other _ _ _ _ hg,heap_setCell_other _ _ _ _ hg];exact h4
theorem zbE {w wr w' : World} {ra rb b : Nat} {xa ya qs rs : List Int} {L : List (Nat × Obj)} {P : List (Nat × Nat × Value × List Int)} {q r : Value} {kind W K : Int} (h : St3 w ra rb xa ya L P wr) (k : Below wr.heap.size wr w') (hq : Own wr.heap.size w' q qs) (hr : Own wr.heap.size w' r rs) (hz : w'.heap[b]? = some opZ) (hb : wr.heap.size ≤ b) {wf : World}
  (hf : wf = ((((w'.setCell ⟨b,0,none⟩ (.int .i64 kind)).setCell ⟨b,1,none⟩ q).setCell ⟨b,2,none⟩ r).setCell ⟨b,3,none⟩ (.int .u64 W)).setCell ⟨b,4,none⟩ (.int .i64 K)) :
  St3 w ra rb xa ya ((b,opOf kind q r W K) :: L) ((wr.heap.size,wf.heap.size,q,qs) :: (wr.heap.size,wf.heap.size,r,rs) :: P) wf := by
 subst hf;refine h.more (((((k.setCell (p := ⟨b,0,none⟩) hb _).setCell (p := ⟨b,1,none⟩) hb _).setCell (p := ⟨b,2,none⟩) hb _).setCell (p := ⟨b,3,none⟩) hb _).setCell (p := ⟨b,4,none⟩) hb _) (zgF hq hz _ _ _ _ _) (zgF hr hz _ _ _ _ _) ?_ hb;simp [World.setCell,Array.getElem?_modify,hz]
theorem zIE (L n cap hi : Nat) (h : hi ≤ n) (h1 : n ≤ cap) : ∀ w,(Instr.slice 25 (.slice (some ⟨L,0,none⟩) n cap) none (some (.int .i64 (hi : Int))) none).run Try.prog w = .ok (.slice (some ⟨L,0,none⟩) hi cap) w := fun w => by
 have i1 : (0 : Int) ≤ (hi : Int) := by omega
 have i2 : (hi : Int) ≤ (n : Int) := by omega
 have i3 : (hi : Int) ≤ (cap : Int) := by omega
 have i4 : (n : Int) ≤ (cap : Int) := by omega
 go_simp
end Go.Proofs.Ytppddlbkdoebmaa
