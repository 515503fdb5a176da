import Derived.Test.YtkdobgbicnemcaaGreatDoorQR5Euc
import Derived.Test.YtkdobgbicnemcaaGreatDoorQFil9ToDot9
set_option maxRecDepth 100000
set_option maxHeartbeats 6400000
set_option linter.unusedVariables false
set_option linter.unusedSimpArgs false
namespace Go.Proofs.YtkdobgbicnemcaaGreatDoor
open Go.RowKit
abbrev opo5 (kind : Int) (a0 a1 b0 b1 c0 c1 : Value) (N M : Int) (S : ByteArray) (vk vl : Value) : Obj := .cells #[.int .i64 kind,a0,a1,b0,b1,c0,c1,.int .i64 N,.int .i64 M,.string S,vk,vl] 29
abbrev anc5 (x0 x1 y0 y1 : Value) (V P Q : Int) (S : ByteArray) (E : Int) : Obj := .cells #[x0,x1,y0,y1,.int .i64 V,.int .i64 P,.int .i64 Q,.string S,.int .i64 E] 33
abbrev anz5 : Obj := anc5 (.bool false) (.slice none 0 0) (.bool false) (.slice none 0 0) 0 0 0 ⟨#[]⟩ 0
abbrev anv5 (x0 x1 y0 y1 : Value) (V P Q : Int) (S : ByteArray) (E : Int) : Value := .agg #[x0,x1,y0,y1,.int .i64 V,.int .i64 P,.int .i64 Q,.string S,.int .i64 E]
def Mid5 (lo hi : Nat) (w w' : World) : Prop := w'.heap.size = w.heap.size ∧ (∀ h,hi ≤ h → w'.heap[h]? = w.heap[h]?) ∧ Below lo w w'
theorem Mid5.refl (lo hi : Nat) (w : World) : Mid5 lo hi w w := ⟨rfl,fun _ _ => rfl,Below.refl _ _⟩
theorem Mid5.set {lo hi b : Nat} {w w' : World} (h : Mid5 lo hi w w') (hb : lo ≤ b) (hh : b < hi) (i : Nat) (v : Value) : Mid5 lo hi w (w'.setCell ⟨b,i,none⟩ v) := by
 have o := (Only.refl b w').set i v;exact ⟨o.1.trans h.1,fun k hk => (o.2 k (by omega)).trans (h.2.1 k hk),h.2.2.setCell (p := ⟨b,i,none⟩) hb v⟩
theorem Mid5.nine {lo hi b : Nat} {w w' : World} (h : Mid5 lo hi w w') (hb : lo ≤ b) (hh : b < hi) (x0 x1 x2 x3 x4 x5 x6 x7 x8 : Value) : Mid5 lo hi w (((((((((w'.setCell ⟨b,0,none⟩ x0).setCell ⟨b,1,none⟩ x1).setCell ⟨b,2,none⟩ x2).setCell ⟨b,3,none⟩ x3).setCell ⟨b,4,none⟩ x4).setCell ⟨b,5,none⟩ x5).setCell ⟨b,6,none⟩ x6).setCell ⟨b,7,none⟩ x7).setCell ⟨b,8,none⟩ x8) :=
 ((((((((h.set hb hh _ _).set hb hh _ _).set hb hh _ _).set hb hh _ _).set hb hh _ _).set hb hh _ _).set hb hh _ _).set hb hh _ _).set hb hh _ _
theorem Zm.mid5 {lo hi B : Nat} {w w' : World} {v : Value} {z : Int} {k : Nat} (m : Zm B w v z k) (h : Mid5 lo hi w w') (hB : hi ≤ B) : Zm B w' v z k := by
 obtain ⟨n,xs,a,c,h1,⟨hw,h2⟩,h3⟩ := m;refine ⟨n,xs,a,c,h1,⟨hw,?_⟩,h3⟩;rcases h2 with h2 | ⟨g,r,cap,q1,q2,q3,q4,q5,q6⟩
 ·exact .inl h2
 ·exact .inr ⟨g,r,cap,q1,q2,q3,q4,q5,(h.2.1 g (by omega)).trans q6⟩
theorem zUB {B : Nat} {w : World} {v0 v1 : Value} {z : Int} {k : Nat} (h : Zm B w (.agg #[v0,v1]) z k) : ∃ n,∃ xs : List Int,∃ a c,v0 = .bool n ∧ v1 = .slice a xs.length c := by
 obtain ⟨n,xs,a,c,h1,_⟩ := h;simp only [Value.agg.injEq,Array.mk.injEq,List.cons.injEq,and_true] at h1;exact ⟨n,xs,a,c,h1.1,h1.2⟩
def AnsP (w : World) (z y V P Q : Int) (S : ByteArray) (E : Int) (e : Ending) (w' : World) : Prop :=
 ∃ x0 x1 y0 y1 k,e = .returned (anv5 x0 x1 y0 y1 V P Q S E) ∧ Zm w.heap.size w' (.agg #[x0,x1]) z k ∧ Zm w.heap.size w' (.agg #[y0,y1]) y k ∧ Below w.heap.size w w'
theorem zGA {w w1 w' : World} {x0 x1 y0 y1 : Value} {z y V P Q E : Int} {S : ByteArray} {k l B : Nat} (hB : w.heap.size + 1 + 1 + 1 ≤ B) (hx : Zm B w1 (.agg #[x0,x1]) z k) (hy : Zm B w1 (.agg #[y0,y1]) y l) (hb : Below w.heap.size w w1) (hm : Mid5 w.heap.size (w.heap.size + 1 + 1 + 1) w1 w') :
  AnsP w z y V P Q S E (.returned (anv5 x0 x1 y0 y1 V P Q S E)) w' :=
 ⟨x0,x1,y0,y1,k + l,rfl,((hx.mid5 hm hB).mono (by omega)).more (by omega),((hy.mid5 hm hB).mono (by omega)).more (by omega),hb.trans hm.2.2⟩
theorem tri5 (w : World) (o1 o2 o3 : Obj) : (((w.alloc o1).alloc o2).alloc o3).heap[w.heap.size]? = some o1 ∧ (((w.alloc o1).alloc o2).alloc o3).heap[w.heap.size + 1]? = some o2 ∧ (((w.alloc o1).alloc o2).alloc o3).heap[w.heap.size + 1 + 1]? = some o3 ∧ Below w.heap.size w (((w.alloc o1).alloc o2).alloc o3) ∧ (((w.alloc o1).alloc o2).alloc o3).heap.size = w.heap.size + 1 + 1 + 1 := by
 refine ⟨?_,?_,?_,(((Below.refl _ _).alloc (Nat.le_refl _) _).alloc (by simp) _).alloc (by simp;omega) _,by simp⟩
 ·exact (Below.heap_alloc _ _ _ (by simp;omega)).trans ((Below.heap_alloc _ _ _ (by simp)).trans (heap_alloc_new w _))
 ·have := heap_alloc_new (w.alloc o1) o2
  rw [show (w.alloc o1).heap.size = w.heap.size + 1 by simp] at this;exact (Below.heap_alloc _ _ _ (by simp)).trans this
 ·have := heap_alloc_new ((w.alloc o1).alloc o2) o3
  rw [show ((w.alloc o1).alloc o2).heap.size = w.heap.size + 1 + 1 by simp] at this;exact this
theorem zKA {W : World} {b : Nat} {x0 x1 y0 y1 : Value} {V P Q E : Int} {S : ByteArray} (h : W.heap[b]? = some (anc5 x0 x1 y0 y1 V P Q S E)) : (W.cell? ⟨b,0,none⟩ = some x0 ∧ W.cell? ⟨b,1,none⟩ = some x1 ∧ W.cell? ⟨b,2,none⟩ = some y0 ∧ W.cell? ⟨b,3,none⟩ = some y1 ∧ W.cell? ⟨b,4,none⟩ = some (.int .i64 V) ∧ W.cell? ⟨b,5,none⟩ = some (.int .i64 P) ∧ W.cell? ⟨b,6,none⟩ = some (.int .i64 Q) ∧ W.cell? ⟨b,7,none⟩ = some (.string S) ∧ W.cell? ⟨b,8,none⟩ = some (.int .i64 E)) ∧ ∀ i,W.frozen? ⟨b,i,none⟩ = false := by
 refine ⟨⟨?_,?_,?_,?_,?_,?_,?_,?_,?_⟩,fun i => by simp [World.frozen?,h]⟩ <;> simp [World.cell?,h]
theorem tw5 {W : World} {b : Nat} {kind : Int} {a0 a1 b0 b1 c0 c1 vk vl : Value} {N M : Int} {S : ByteArray} (h : W.heap[b]? = some (opo5 kind a0 a1 b0 b1 c0 c1 N M S vk vl)) : W.cell? ⟨b,0,none⟩ = some (.int .i64 kind) ∧ W.cell? ⟨b,1,none⟩ = some a0 ∧ W.cell? ⟨b,2,none⟩ = some a1 ∧ W.cell? ⟨b,3,none⟩ = some b0 ∧ W.cell? ⟨b,4,none⟩ = some b1 ∧ W.cell? ⟨b,5,none⟩ = some c0 ∧ W.cell? ⟨b,6,none⟩ = some c1 ∧ W.cell? ⟨b,7,none⟩ = some (.int .i64 N) ∧ W.cell? ⟨b,8,none⟩ = some (.int .i64 M) ∧ W.cell? ⟨b,9,none⟩ = some (.string S) ∧ W.cell? ⟨b,10,none⟩ = some vk ∧ W.cell? ⟨b,11,none⟩ = some vl := by
 refine ⟨?_,?_,?_,?_,?_,?_,?_,?_,?_,?_,?_,?_⟩ <;> simp [World.cell?,h]
theorem box5 {w w' : World} {b : Nat} {o : Obj} (h : w.heap[b]? = some o) (k : Below w.heap.size w w') : w'.heap[b]? = some o := (k.block _ (Array.getElem?_eq_some_iff.1 h).1).trans h
end Go.Proofs.YtkdobgbicnemcaaGreatDoor
