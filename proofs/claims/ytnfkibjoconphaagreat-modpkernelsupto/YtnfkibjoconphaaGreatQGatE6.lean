import Derived.Deep.AppendLies
import Derived.Test.YtnfkibjoconphaaGreatQTy9ToMt12
set_option maxRecDepth 100000
set_option maxHeartbeats 6400000
set_option linter.unusedVariables false
set_option linter.unusedSimpArgs false
namespace Go.Proofs.YtnfkibjoconphaaGreat
open Go.RowKit
theorem zJE (g j : Nat) : (⟨g,0,none⟩ : Addr).add j = ⟨g,j,none⟩ := by unfold Addr.add;split <;> simp_all
def GatE (W : World) (B : Nat) (w : World) (v : Value) (zs : List Int) (k : Nat) : Prop :=
 ∃ Us : List Value,w.ownsRow B 43 2 v zs.length Us ∧ ∀ j z,zs[j]? = some z → ∃ x y,Us[2 * j]? = some x ∧ Us[2 * j + 1]? = some y ∧ (Zi W (.agg #[x,y]) z k ∨ Zm 0 w (.agg #[x,y]) z k)
theorem GatE.nil (W : World) (B : Nat) (w : World) (k : Nat) : GatE W B w (.slice none 0 0) [] k := ⟨[],World.ownsRow_nil _ _ _ _,fun j z h => by simp at h⟩
theorem GatE.now {W : World} {B k : Nat} {w w' : World} {v : Value} {zs : List Int} (h : GatE W B w v zs k) (hb : Below w.heap.size w w') : GatE W B w' v zs k := by
 obtain ⟨Us,h1,h3⟩ := h;refine ⟨Us,?_,fun j z hz => ?_⟩
 ·obtain ⟨q1,q2 | ⟨g,cap,cur,q2,q3,q4,q5⟩⟩ := h1
  ·exact ⟨q1,.inl q2⟩
  ·exact ⟨q1,.inr ⟨g,cap,cur,q2,q3,(hb.block g (Array.getElem?_eq_some_iff.1 q4).1).trans q4,q5⟩⟩
 ·obtain ⟨x,y,e1,e2,e3⟩ := h3 j z hz
  exact ⟨x,y,e1,e2,e3.imp id (fun q => q.now hb)⟩
theorem GatE.off {W : World} {B k : Nat} {w w' : World} {v : Value} {zs : List Int} (h : GatE W B w v zs k) (ht : Ty 43 w w') (hb : ∀ g,v.ownBlock = some g → w'.heap[g]? = w.heap[g]?) : GatE W B w' v zs k := by
 obtain ⟨Us,h1,h3⟩ := h;refine ⟨Us,?_,fun j z hz => ?_⟩
 ·obtain ⟨q1,q2 | ⟨g,cap,cur,q2,q3,q4,q5⟩⟩ := h1
  ·exact ⟨q1,.inl q2⟩
  ·exact ⟨q1,.inr ⟨g,cap,cur,q2,q3,(hb g (by rw [q2];rfl)).trans q4,q5⟩⟩
 ·obtain ⟨x,y,e1,e2,e3⟩ := h3 j z hz
  exact ⟨x,y,e1,e2,e3.imp id (fun q => q.ty ht (by decide))⟩
theorem GatE.form {W : World} {B k : Nat} {w : World} {v : Value} {zs : List Int} (h : GatE W B w v zs k) : ∃ a cap,v = .slice a zs.length cap ∧ zs.length ≤ cap := by
 obtain ⟨Us,⟨q1,⟨q2,q3⟩ | ⟨g,cap,cur,q2,q3,q4,q5,q6⟩⟩,h3⟩ := h
 ·exact ⟨none,0,by rw [q2,q3],by omega⟩
 ·exact ⟨_,cap,q2,q5⟩
theorem GatE.own {W : World} {B k : Nat} {w : World} {v : Value} {zs : List Int} (h : GatE W B w v zs k) {g : Nat} (hg : v.ownBlock = some g) : B ≤ g ∧ g < w.heap.size := by
 obtain ⟨Us,⟨q1,⟨q2,_⟩ | ⟨g1,cap,cur,q2,q3,q4,q5⟩⟩,h3⟩ := h
 ·rw [q2] at hg;cases hg
 ·rw [q2] at hg
  simp only [Value.ownBlock,Option.some.injEq] at hg;subst hg;exact ⟨q3,(Array.getElem?_eq_some_iff.1 q4).1⟩
theorem GatE.zl {W : World} {B k : Nat} {w : World} {v : Value} {zs : List Int} (h : GatE W B w v zs k) (hl : zs.length ≤ 1048576) (hW : Below W.heap.size W w) : Zl w v zs k := by
 obtain ⟨Us,h1,h3⟩ := h;have h1' := h1;obtain ⟨q1,⟨q2,q3⟩ | ⟨g,cap,cur,q2,q3,q4,q5,q6⟩⟩ := h1
 ·exact ⟨none,0,by rw [q2,q3],by omega,hl,.inl (List.eq_nil_of_length_eq_zero q3)⟩
 ·refine ⟨_,cap,q2,q5,hl,.inr ⟨g,0,rfl,(Array.getElem?_eq_some_iff.1 q4).1,fun j hj => ?_⟩⟩
  obtain ⟨x,y,e1,e2,e3⟩ := h3 j _ (List.getElem?_eq_getElem hj);have c0 := World.ownsRow.cells h1' (g := g) (by rw [q2];rfl) _ _ e1;have c1 := World.ownsRow.cells h1' (g := g) (by rw [q2];rfl) _ _ e2;rw [zJE] at c0 c1;exact ⟨x,y,by rw [Nat.zero_add];exact c0,by rw [Nat.zero_add];exact c1,e3.elim (fun q => q.now hW) (fun q => q.zi)⟩
theorem zIC (w : World) {ops : Array Oper} {rest : List Oper} {o : Oper} {a : Act} {Q : Exit → Act → World → Prop}
  (hgd : o.guard = none) (s x : Operand) (hop : o.op = .call { callee := .builtin .append,args := #[s,x],argTypes := #[22,22] })
  (W : World) (B k : Nat) (v x0 x1 : Value) (zs : List Int) (z : Int) (hs : a.eval s = v) (hB : GatE W B w v zs k) (g : Nat) (hx : a.eval x = .slice (some ⟨g,0,none⟩) 1 1) (hc0 : w.cell? ⟨g,0,none⟩ = some x0) (hc1 : w.cell? ⟨g,1,none⟩ = some x1) (hu : Zi W (.agg #[x0,x1]) z k ∨ Zm 0 w (.agg #[x0,x1]) z k) (hlen : zs.length ≤ 1048576) (hBs : B ≤ w.heap.size)
  (hK : ∀ a' cap' w',Hid (GatE W B w' (.slice a' (zs.length + 1) cap') (zs ++ [z]) k) → Hid (Ty 43 w w') → Hid (Below B w w') → Hid (∀ b,b < w.heap.size → v.ownBlock ≠ some b → w'.heap[b]? = w.heap[b]?) → Hid (∀ b,(Value.slice a' (zs.length + 1) cap').ownBlock = some b → v.ownBlock = some b ∨ b = w.heap.size) → wpList Tryz.prog ops Q rest (a.put o.dst (.slice a' (zs.length + 1) cap')) w') :
  wpList Tryz.prog ops Q (o :: rest) a w := by
 obtain ⟨i,hi,hz,hsz,hby⟩ := info_parts Tryz.infoZ9;obtain ⟨Us,h1,h3⟩ := hB;obtain ⟨nx,axx,lx,cx,e⟩ : ∃ n a l c,#[x0,x1] = #[Value.bool n,Value.slice a l c] := by
  rcases hu with ⟨n,xs,a,c,e,_⟩ | ⟨n,xs,a,c,e,_⟩ <;> exact ⟨n,a,xs.length,c,by simpa using e⟩
 obtain ⟨rfl,rfl⟩ : x0 = .bool nx ∧ x1 = .slice axx lx cx := by simpa using e
 clear e;refine wpList_append_lies w hgd s x 22 hop B 43 i (.agg #[.bool false,.slice none 0 0]) 2 32 Tryz.underlying22 hi hz hsz hby rfl (by omega) v zs.length Us hs h1 ⟨g,0,none⟩ 1 1 [.bool nx,.slice axx lx cx] hx rfl ?_ ?_ (by omega) (by unfold maxLen;omega) (by omega) hBs w.heap.size rfl ?_
 ·intro j u' hj
  match j,hj with
  | 0,hj => simp at hj;subst hj;rw [zJE];exact hc0
  | 1,hj => simp at hj;subst hj;rw [zJE];exact hc1
 ·intro u' hu'
  simp at hu';rcases hu' with rfl | rfl <;> rfl
 ·intro g' cap' w' k1 k2 k3 k4
  have keep : Ty 43 w w' := Ty.grown h1 k2;have hUl := h1.1;refine hK _ _ w' ⟨Us ++ [.bool nx,.slice axx lx cx],by rw [List.length_append];exact k1,fun j z' hz' => ?_⟩ keep ?_ (fun b hb hne => k2.block b hb (fun e => hne e.symm)) (fun b hb => ?_)
  ·rcases Nat.lt_or_ge j zs.length with q | q
   ·rw [List.getElem?_append_left q] at hz'
    obtain ⟨x,y,e1,e2,e3⟩ := h3 j z' hz';exact ⟨x,y,by rw [List.getElem?_append_left (by omega)];exact e1,by rw [List.getElem?_append_left (by omega)];exact e2,e3.imp id (fun q => q.ty keep (by decide))⟩
   ·have hj : j = zs.length := by
     have := (List.getElem?_eq_some_iff.1 hz').1;simp at this;omega
    subst hj;rw [List.getElem?_append_right (by omega)] at hz';simp only [Nat.sub_self,List.getElem?_cons_zero,Option.some.injEq] at hz';subst hz';refine ⟨_,_,?_,?_,hu.imp id (fun q => q.ty keep (by decide))⟩
    ·rw [List.getElem?_append_right (by omega),show 2 * zs.length - Us.length = 0 by omega];rfl
    ·rw [List.getElem?_append_right (by omega),show 2 * zs.length + 1 - Us.length = 1 by omega];rfl
  ·refine ⟨k2.os,k2.tape,k2.output,k2.size,fun b hb => k2.block b (by omega) (fun e => ?_)⟩
   obtain ⟨_,⟨q,_⟩ | ⟨g1,cap1,cur,q,q3,_⟩⟩ := h1
   ·rw [q] at e;cases e
   ·rw [q] at e
    simp only [Value.ownBlock,Option.some.injEq] at e;omega
  ·simp only [Value.ownBlock,Option.some.injEq] at hb
   subst hb;exact k3
end Go.Proofs.YtnfkibjoconphaaGreat
