import Derived.Test.YtfeofdpnhhiclaaGreatQPn19ToRs19
import Derived.Test.YtfeofdpnhhiclaaGreatQLe19ToTail3
set_option maxRecDepth 100000
set_option maxHeartbeats 6400000
set_option linter.unusedVariables false
set_option linter.unusedSimpArgs false
namespace Go.Proofs.YtfeofdpnhhiclaaGreat
open Go.RowKit
def BX19 (W w : World) (l : List Nat) : Prop := Below W.heap.size W w ∧ (∀ b,b ∈ l → W.heap.size ≤ b ∧ Duo w b (.bool false) (.slice none 0 0)) ∧ l.Nodup
theorem BX19.nil {W w : World} (h : Below W.heap.size W w) : BX19 W w [] := ⟨h,fun b hb => (List.not_mem_nil hb).elim,List.nodup_nil⟩
theorem BX19.step {W w w' : World} {l : List Nat} (h : BX19 W w l) (b : Below w.heap.size w w') : BX19 W w' l := ⟨below_step h.1 b,fun x hx => ⟨(h.2.1 x hx).1,(h.2.1 x hx).2.step b⟩,h.2.2⟩
theorem BX19.new {W w : World} {l : List Nat} (h : BX19 W w l) : BX19 W (w.alloc zbox) (w.heap.size :: l) := by
 have k := (Below.refl w.heap.size w).alloc (Nat.le_refl _) zbox;refine ⟨below_step h.1 k,fun x hx => ?_,List.nodup_cons.2 ⟨fun q => ?_,h.2.2⟩⟩
 ·rcases List.mem_cons.1 hx with rfl | q
  ·exact ⟨h.1.size,Duo.new w _ _⟩
  ·exact ⟨(h.2.1 x q).1,(h.2.1 x q).2.step k⟩
 ·have := (h.2.1 _ q).2.blk
  omega
theorem BX19.one {W w : World} {a : Nat} (h : BX19 W w [a]) : W.heap.size ≤ a ∧ Duo w a (.bool false) (.slice none 0 0) := h.2.1 a (by simp)
theorem BX19.two {W w : World} {a b : Nat} (h : BX19 W w [a,b]) : (W.heap.size ≤ a ∧ Duo w a (.bool false) (.slice none 0 0)) ∧ (W.heap.size ≤ b ∧ Duo w b (.bool false) (.slice none 0 0)) ∧ a ≠ b := ⟨h.2.1 a (by simp),h.2.1 b (by simp),by have := h.2.2;simp at this;exact this⟩
theorem BX19.three {W w : World} {a b c : Nat} (h : BX19 W w [a,b,c]) : (W.heap.size ≤ a ∧ Duo w a (.bool false) (.slice none 0 0)) ∧ (W.heap.size ≤ b ∧ Duo w b (.bool false) (.slice none 0 0)) ∧ (W.heap.size ≤ c ∧ Duo w c (.bool false) (.slice none 0 0)) ∧ a ≠ b ∧ a ≠ c ∧ b ≠ c := by
 have := h.2.2;simp at this;exact ⟨h.2.1 a (by simp),h.2.1 b (by simp),h.2.1 c (by simp),this.1.1,this.1.2,this.2⟩
def zLB (W wx : World) (s1 s2 s3 : Value) (z1 z2 z3 : Int) (k : Nat) : Prop :=
 ∃ b1 b2 b3 n1 n2 n3,∃ x1 x2 x3 : List Int,∃ a1 a2 a3 c1 c2 c3,s1 = .pointer (some ⟨b1,0,none⟩) ∧ s2 = .pointer (some ⟨b2,0,none⟩) ∧ s3 = .pointer (some ⟨b3,0,none⟩) ∧ Duo wx b1 (.bool n1) (.slice a1 x1.length c1) ∧ Duo wx b2 (.bool n2) (.slice a2 x2.length c2) ∧ Duo wx b3 (.bool n3) (.slice a3 x3.length c3)
  ∧ Zm 0 wx (.agg #[.bool n1,.slice a1 x1.length c1]) z1 k ∧ Zm 0 wx (.agg #[.bool n2,.slice a2 x2.length c2]) z2 k ∧ Zm 0 wx (.agg #[.bool n3,.slice a3 x3.length c3]) z3 k ∧ Below W.heap.size W wx
def Z319 (w : World) (vg vx vy : Value) (g x y : Int) (k : Nat) : Prop := Zm 0 w vg g k ∧ Zm 0 w vx x k ∧ Zm 0 w vy y k
theorem Z319.al {w : World} {vg vx vy : Value} {g x y : Int} {k : Nat} (h : Z319 w vg vx vy g x y k) : Z319 (w.alloc zbox) vg vx vy g x y k := by
 have b := (Below.refl w.heap.size w).alloc (Nat.le_refl _) zbox;exact ⟨h.1.now b,h.2.1.now b,h.2.2.now b⟩
def Q319 (W w : World) (p q t : Nat) (p0 p1 q0 q1 t0 t1 vg vx vy : Value) (g x y : Int) (k : Nat) : Prop := Below W.heap.size W w ∧ (W.heap.size ≤ p ∧ W.heap.size ≤ q ∧ W.heap.size ≤ t) ∧ (p ≠ q ∧ p ≠ t ∧ q ≠ t) ∧ (Duo w p p0 p1 ∧ Duo w q q0 q1 ∧ Duo w t t0 t1) ∧ Z319 w vg vx vy g x y k
theorem BX19.q3 {W w : World} {a b c : Nat} {vg vx vy : Value} {g x y : Int} {k : Nat} (h : BX19 W w [a,b,c]) (z : Z319 w vg vx vy g x y k) : Q319 W w a b c (.bool false) (.slice none 0 0) (.bool false) (.slice none 0 0) (.bool false) (.slice none 0 0) vg vx vy g x y k := by
 obtain ⟨⟨s1,d1⟩,⟨s2,d2⟩,⟨s3,d3⟩,n1,n2,n3⟩ := h.three;exact ⟨h.1,⟨s1,s2,s3⟩,⟨n1,n2,n3⟩,⟨d1,d2,d3⟩,z⟩
theorem BX19.s12 {W w : World} {a b c : Nat} (h : BX19 W w [a,b,c]) : BX19 W w [b,a,c] := ⟨h.1,fun x hx => h.2.1 x (by simp at hx ⊢;omega),by have := h.2.2;simp at this ⊢;omega⟩
theorem BX19.s23 {W w : World} {a b c : Nat} (h : BX19 W w [a,b,c]) : BX19 W w [a,c,b] := ⟨h.1,fun x hx => h.2.1 x (by simp at hx ⊢;omega),by have := h.2.2;simp at this ⊢;omega⟩
theorem Z319.ty {w : World} {b : Nat} {x0 y0 vg vx vy : Value} {g x y : Int} {k : Nat} (h : Z319 w vg vx vy g x y k) (d : Duo w b x0 y0) (u u' : Value) : Z319 ((w.setCell ⟨b,0,none⟩ u).setCell ⟨b,1,none⟩ u') vg vx vy g x y k := ⟨h.1.ty (d.ty13 u u') (by decide),h.2.1.ty (d.ty13 u u') (by decide),h.2.2.ty (d.ty13 u u') (by decide)⟩
theorem Q319.sp {W w : World} {p q t : Nat} {p0 p1 q0 q1 t0 t1 vg vx vy : Value} {g x y : Int} {k : Nat} (h : Q319 W w p q t p0 p1 q0 q1 t0 t1 vg vx vy g x y k) (u u' : Value) : Q319 W ((w.setCell ⟨p,0,none⟩ u).setCell ⟨p,1,none⟩ u') p q t u u' q0 q1 t0 t1 vg vx vy g x y k :=
 ⟨bset (bset h.1 h.2.1.1) h.2.1.1,h.2.1,h.2.2.1,⟨h.2.2.2.1.1.set _ _,h.2.2.2.1.2.1.box h.2.2.1.1 _ _,h.2.2.2.1.2.2.box h.2.2.1.2.1 _ _⟩,h.2.2.2.2.ty h.2.2.2.1.1 _ _⟩
theorem Q319.sq {W w : World} {p q t : Nat} {p0 p1 q0 q1 t0 t1 vg vx vy : Value} {g x y : Int} {k : Nat} (h : Q319 W w p q t p0 p1 q0 q1 t0 t1 vg vx vy g x y k) (u u' : Value) : Q319 W ((w.setCell ⟨q,0,none⟩ u).setCell ⟨q,1,none⟩ u') p q t p0 p1 u u' t0 t1 vg vx vy g x y k :=
 ⟨bset (bset h.1 h.2.1.2.1) h.2.1.2.1,h.2.1,h.2.2.1,⟨h.2.2.2.1.1.box (Ne.symm h.2.2.1.1) _ _,h.2.2.2.1.2.1.set _ _,h.2.2.2.1.2.2.box h.2.2.1.2.2 _ _⟩,h.2.2.2.2.ty h.2.2.2.1.2.1 _ _⟩
theorem Q319.st {W w : World} {p q t : Nat} {p0 p1 q0 q1 t0 t1 vg vx vy : Value} {g x y : Int} {k : Nat} (h : Q319 W w p q t p0 p1 q0 q1 t0 t1 vg vx vy g x y k) (u u' : Value) : Q319 W ((w.setCell ⟨t,0,none⟩ u).setCell ⟨t,1,none⟩ u') p q t p0 p1 q0 q1 u u' vg vx vy g x y k :=
 ⟨bset (bset h.1 h.2.1.2.2) h.2.1.2.2,h.2.1,h.2.2.1,⟨h.2.2.2.1.1.box (Ne.symm h.2.2.1.2.1) _ _,h.2.2.2.1.2.1.box (Ne.symm h.2.2.1.2.2) _ _,h.2.2.2.1.2.2.set _ _⟩,h.2.2.2.2.ty h.2.2.2.1.2.2 _ _⟩
theorem Duo.four {w : World} {b : Nat} {x y : Value} (h : Duo w b x y) : w.cell? ⟨b,0,none⟩ = some x ∧ w.cell? ⟨b,1,none⟩ = some y ∧ w.frozen? ⟨b,0,none⟩ = false ∧ w.frozen? ⟨b,1,none⟩ = false := ⟨h.c0,h.c1,h.fz 0,h.fz 1⟩
end Go.Proofs.YtfeofdpnhhiclaaGreat
