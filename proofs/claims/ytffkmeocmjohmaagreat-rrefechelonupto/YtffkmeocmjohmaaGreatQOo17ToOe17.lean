/-
 QOo17ToOe17: Oo17, Oe17, joined.
-/
import Derived.Test.YtffkmeocmjohmaaGreatQCc17ToRef
import Derived.Test.YtffkmeocmjohmaaGreatQExt6ToRf11
import Derived.Test.YtffkmeocmjohmaaGreatQEh17

set_option maxRecDepth 100000
set_option maxHeartbeats 6400000
set_option linter.unusedVariables false
set_option linter.unusedSimpArgs false
namespace Go.Proofs.YtffkmeocmjohmaaGreat
open Go.ChangeShapes Go.WideShapes Go.ChangeAt Go.RowKit
theorem Tryz.cellsF17 : Tryz.prog.cellsOf 47 = 4 := by kernel_rfl
theorem Tryz.cellsQ17 : Tryz.prog.cellsOf 24 = 3 := by kernel_rfl
theorem Tryz.cellsI17 : Tryz.prog.cellsOf 3 = 1 := by kernel_rfl
theorem Tryz.cellsL17 : Tryz.prog.cellsOf 22 = 1 := by kernel_rfl
theorem zPG : ∀ (l : List Nat) (k : Nat),ksum (l ++ [k]) = ksum l + k
 | [],k => by simp [ksum]
 | x :: r,k => by rw [List.cons_append,zfD,zfD,zPG r k];omega
theorem zwG : ∀ (n : Nat) (f : Nat → Nat),sn n f = ksum ((List.range n).map f)
 | 0,f => rfl
 | n + 1,f => by
  rw [List.range_succ,List.map_append,List.map_cons,List.map_nil,zPG,← zwG n f];rfl
def Wq17 (n : Nat) (P Q : Nat → Int) : Prop := ∃ u : Nat → Nat,(∀ t,t < n → ∃ a b,((P t).natAbs : Int) ≤ pw a ∧ ((Q t).natAbs : Int) ≤ pw b ∧ a + b ≤ u t) ∧ sn n u ≤ 1048576
theorem open_frac17 {H : Type} {enc : TypeId × Value → H} {W : World} {fuel : Nat} {cs : List Value} {x : DataW H × List MemPlace}
  (hf : DataW.trod enc Tryz.prog W 0 (fun _ => true) true fuel 47 cs = some x) (hb : Rows.uptoBulk x.1 ≤ 1048576) :
  ∃ x0 x1 x2 x3 p q k l,cs = [x0,x1,x2,x3] ∧ Zi W (.agg #[x0,x1]) p k ∧ Zi W (.agg #[x2,x3]) q l ∧ k + l + 1 ≤ Rows.uptoBulk x.1 := by
 obtain ⟨y0,y1,n,hx,hl,t0,t1⟩ := zxC Tryz.underlying47 hf;rw [Tryz.cellsF17] at hl;rw [hx] at hb ⊢;simp only [Rows.uptoBulk,Rows.uptoBulkAll] at hb ⊢
 match cs,hl with
 | [e0,e1,e2,e3],_ =>
  simp only [Tryz.cellsZ,List.drop_zero,List.drop_succ_cons,List.take_succ_cons,List.take_zero] at t0 t1;obtain ⟨x0,x1,p,k,q1,s1,l1⟩ := zaD t0 (by omega);obtain ⟨x2,x3,q,l,q2,s2,l2⟩ := zaD t1 (by omega);simp only [List.cons.injEq,and_true] at q1 q2;obtain ⟨rfl,rfl⟩ := q1;obtain ⟨rfl,rfl⟩ := q2;exact ⟨_,_,_,_,p,q,k,l,rfl,s1,s2,by omega⟩
theorem Zi.parts17 {w : World} {x y : Value} {z : Int} {k : Nat} (h : Zi w (.agg #[x,y]) z k) : ∃ n a l c,x = .bool n ∧ y = .slice a l c := by
 obtain ⟨n,xs,a,c,e,-⟩ := h;simp only [Value.agg.injEq,Array.mk.injEq,List.cons.injEq,and_true] at e;exact ⟨n,a,_,c,e.1,e.2⟩
theorem open_fracs17 {H : Type} {enc : TypeId × Value → H} {W : World} {fuel : Nat} {v : Value} {y : DataW H × List MemPlace}
  (hf : DataW.trod enc Tryz.prog W 0 (fun _ => true) true fuel 22 [v] = some y) (hb : Rows.uptoBulk y.1 ≤ 1048576) :
  ∃ a l cap P Q,v = .slice a l cap ∧ Qs W (.slice a l cap) l P Q 1048576 ∧ Wq17 l P Q := by
 rcases Deep.open_slice Tryz.underlying22 hf with ⟨hcs,_⟩ | ⟨x,len,cap,m,n,D,Pl,hcs,_,hl,hm,hmm,hx,hel⟩
 ·simp only [List.cons.injEq,and_true] at hcs
  subst hcs;exact ⟨none,0,0,fun _ => 0,fun _ => 0,rfl,⟨none,0,rfl,Nat.le_refl _,⟨by omega,fun _ => rfl⟩,.inl rfl⟩,fun _ => 0,fun t ht => by omega,by show 0 ≤ 1048576;omega⟩
 ·simp only [List.cons.injEq,and_true] at hcs
  subst hcs;simp only [if_true] at hmm;subst hmm;rw [hx] at hb;simp only [Rows.uptoBulk] at hb;have e1 := zfC ((List.range len).map D);simp only [List.length_map,List.length_range] at e1;rw [Tryz.cellsF17] at hel;obtain ⟨q,hq⟩ := Deep.choose_lt (α := (Value × Value × Value × Value) × (Int × Int) × (Nat × Nat)) (n := len) (p := fun i q => W.cells? 0 (x.add (i * 4)) 4 = some [q.1.1,q.1.2.1,q.1.2.2.1,q.1.2.2.2] ∧ Zi W (.agg #[q.1.1,q.1.2.1]) q.2.1.1 q.2.2.1 ∧ Zi W (.agg #[q.1.2.2.1,q.1.2.2.2]) q.2.1.2 q.2.2.2 ∧ (q.2.2.1 + q.2.2.2) + 1 ≤ Rows.uptoBulk (D i)) (fun i hi => by
    obtain ⟨cs',h1,h2⟩ := hel i (by omega);have hbi : Rows.uptoBulk (D i) ≤ 1048576 := by
     have := bulk_in (List.mem_map_of_mem (f := D) (List.mem_range.2 hi));omega
    obtain ⟨x0,x1,x2,x3,p,q,k,l,rfl,s1,s2,s3⟩ := open_frac17 (x := (D i,Pl i)) h2 hbi;exact ⟨((x0,x1,x2,x3),(p,q),(k,l)),h1,s1,s2,s3⟩)
  have ht := zgD (D := D) (q := fun i => (q i).2.2.1 + (q i).2.2.2) (List.range len) (fun i hi => (hq i (List.mem_range.1 hi)).2.2.2);simp only [List.length_range] at ht;rw [← zwG] at ht;refine ⟨some x,len,m,fun i => (q i).2.1.1,fun i => (q i).2.1.2,rfl,⟨some x,m,rfl,by simpa using hl,⟨by omega,fun e => by cases e⟩,?_⟩,fun i => (q i).2.2.1 + (q i).2.2.2,fun t h => ⟨_,_,Int.le_of_lt (hq t h).2.1.lt,Int.le_of_lt (hq t h).2.2.1.lt,Nat.le_refl _⟩,by omega⟩
  by_cases he : len = 0
  ·exact .inl he
  ·obtain ⟨b,off,spot⟩ := x
   have hc := (World.cells?_some (hq 0 (by omega)).1).2.2 0 (by omega);rw [Deep.add_add] at hc;simp only [Nat.zero_mul,Nat.add_zero,List.getElem?_cons_zero] at hc;have hspot : spot = none := by simpa [Addr.add] using World.cell?_spot hc
   subst hspot;refine .inr ⟨b,off,rfl,?_,fun j hj => ?_⟩
   ·have := World.block_lt_of_cell? W _ hc
    simpa [Addr.add] using this
   ·have ea : ∀ j,(⟨b,off,none⟩ : Addr).add j = ⟨b,off + j,none⟩ := fun j => by unfold Addr.add;split <;> simp_all
    have k0 := (World.cells?_some (hq j hj).1).2.2 0 (by omega);have k1 := (World.cells?_some (hq j hj).1).2.2 1 (by omega);have k2 := (World.cells?_some (hq j hj).1).2.2 2 (by omega);have k3 := (World.cells?_some (hq j hj).1).2.2 3 (by omega);rw [Deep.add_add,ea] at k0 k1 k2 k3;simp only [Nat.add_zero,List.getElem?_cons_zero,List.getElem?_cons_succ] at k0 k1 k2 k3;have z1 := (hq j hj).2.1;have z2 := (hq j hj).2.2.1;obtain ⟨n1,a1,l1,c1,f1,f2⟩ := z1.parts17;obtain ⟨n2,a2,l2,c2,f3,f4⟩ := z2.parts17;have hs : (q j).2.2.1 + (q j).2.2.2 ≤ sn len (fun i => (q i).2.2.1 + (q i).2.2.2) := zuG (f := fun i => (q i).2.2.1 + (q i).2.2.2) hj;rw [f1,f2] at z1;rw [f3,f4] at z2;rw [f1] at k0;rw [f2] at k1;rw [f3] at k2;rw [f4] at k3;exact ⟨n1,a1,l1,c1,n2,a2,l2,c2,k0,by rw [Nat.add_assoc];exact k1,by rw [Nat.add_assoc];exact k2,by rw [Nat.add_assoc];exact k3,z1.more (by omega),z2.more (by omega)⟩
def Raq (w : World) (v : Value) : Prop := ∃ (r c : Int) (a : Option Addr) (l cap : Nat) (P Q : Nat → Int),v = .agg #[.int .i64 r,.int .i64 c,.slice a l cap] ∧ Qs w (.slice a l cap) l P Q 1048576 ∧ Wq17 l P Q
theorem trod_struct3q {H : Type} {enc : TypeId × Value → H} {P : Program} {w : World} {base : Nat} {spare : Nat → Bool} {held : Bool} {t : TypeId} {f0 f1 f2 : Field} {fuel : Nat} {cs : List Value} {x : DataW H × List MemPlace} (ht : P.underlying t = some (.struct #[f0,f1,f2]))
  (h : DataW.trod enc P w base spare held fuel t cs = some x) :
  ∃ y0 y1 y2 n,x.1 = .agg [y0.1,y1.1,y2.1] ∧ cs.length = P.cellsOf t ∧ DataW.trod enc P w base spare held n f0.type ((cs.drop f0.offset).take (P.cellsOf f0.type)) = some y0 ∧ DataW.trod enc P w base spare held n f1.type ((cs.drop f1.offset).take (P.cellsOf f1.type)) = some y1 ∧ DataW.trod enc P w base spare held n f2.type ((cs.drop f2.offset).take (P.cellsOf f2.type)) = some y2 := by
 obtain ⟨xs,n,_,rfl,hl,hlen,hf⟩ := DataW.trod_struct ht h
 match xs,hlen with
 | [y0,y1,y2],_ => exact ⟨y0,y1,y2,n,by simp,hl,by simpa using hf 0 f0 rfl,by simpa using hf 1 f1 rfl,by simpa using hf 2 f2 rfl⟩
theorem open_qmat17 {H : Type} {enc : TypeId × Value → H} {W : World} {r : Reach} {b0 : Nat} {v : Value} {d : DataW H} {p : List MemPlace}
  (hv : Value.okWide Tryz.prog W r b0 24 v) (h0 : DataW.Trod enc Tryz.prog W 0 (fun _ => true) true 24 v d p) (hb : Rows.uptoBulk d ≤ 1048576) : Raq W v := by
 obtain ⟨cs,rfl,hsz⟩ := okWide_struct Tryz.underlying24 hv;obtain ⟨fuel,hf⟩ := h0;obtain ⟨y0,y1,y2,n,hx,hl,t0,t1,t2⟩ := trod_struct3q Tryz.underlying24 hf;obtain ⟨L,rfl⟩ : ∃ L : List Value,cs = L.toArray := ⟨cs.toList,by simp⟩
 simp only [Value.cells] at hl t0 t1 t2;rw [Tryz.cellsQ17] at hl;have hx' : d = .agg [y0.1,y1.1,y2.1] := hx;subst hx';simp only [Rows.uptoBulk,Rows.uptoBulkAll] at hb
 match L,hl with
 | [e0,e1,e2],_ =>
  simp only [Tryz.cellsI17,Tryz.cellsL17,List.drop_zero,List.drop_succ_cons,List.take_succ_cons,List.take_zero] at t0 t1 t2;obtain ⟨k0,q0,_,_⟩ := DataW.trod_int Tryz.underlying3 t0;obtain ⟨k1,q1,_,_⟩ := DataW.trod_int Tryz.underlying3 t1;simp only [List.cons.injEq,and_true] at q0 q1;subst q0 q1;obtain ⟨a,l,cap,P,Q,rfl,h1,h2⟩ := open_fracs17 t2 (by omega);exact ⟨_,_,a,l,cap,P,Q,rfl,h1,h2⟩
theorem rrefEchelon_any {w : World} {v : Value} {ii jj : Int} (h : Raq w v) : Calls Tryz.prog 3 #[v,.int .i64 ii,.int .i64 jj] w fun e w' => e = .returned (.bool true) ∧ Below w.heap.size w w' := by
 obtain ⟨r,c,a,l,cap,P,Q,rfl,hv,u,hu,hs⟩ := h
 by_cases hb : ¬ Snd r c l ∨ ∃ t,t < l ∧ Q t = 0
 ·exact rech_bad hv (Nat.le_refl _) hb
 ·have h1 : Snd r c l := Classical.byContradiction fun q => hb (.inl q)
  have h3 : ∀ t,t < l → Q t ≠ 0 := fun t ht q => hb (.inr ⟨t,ht,q⟩)
  obtain ⟨s1,s2,s3,s4,s5⟩ := h1;obtain ⟨n,rfl⟩ : ∃ n : Nat,r = (n : Int) := ⟨r.toNat,by omega⟩
  obtain ⟨m,rfl⟩ : ∃ m : Nat,c = (m : Int) := ⟨c.toNat,by omega⟩
  have hl : l = n * m := by
   rw [← Int.natCast_mul] at s5;exact Int.ofNat.inj s5
  exact rech_yes (u := u) hv hl (by omega) (by omega) (by rw [← hl];exact ⟨h3,hu,hs⟩)
end Go.Proofs.YtffkmeocmjohmaaGreat
