/-
 QQf17ToFa17: Qf17, Ro17, Fa17, joined.
-/
import Derived.Test.YtffkmeocmjohmaaGreatQDim17ToCf8
import Derived.Test.YtffkmeocmjohmaaGreatQOf8
import Derived.Test.YtffkmeocmjohmaaGreatQLst9ToRowsOf9
import Derived.Test.YtffkmeocmjohmaaGreatQEach9ToLeastA9

set_option maxRecDepth 100000
set_option maxHeartbeats 6400000
set_option linter.unusedVariables false
set_option linter.unusedSimpArgs false
namespace Go.Proofs.YtffkmeocmjohmaaGreat
open Go.RowKit
def Qs (w : World) (v : Value) (n : Nat) (P Q : Nat → Int) (k : Nat) : Prop :=
 ∃ a c,v = .slice a n c ∧ n ≤ c ∧ (n ≤ 1048576 ∧ (a = none → c = 0)) ∧ (n = 0 ∨ ∃ b off,a = some ⟨b,off,none⟩ ∧ b < w.heap.size ∧ ∀ j,j < n → ∃ n1 a1 l1 c1 n2 a2 l2 c2,w.cell? ⟨b,off + j * 4,none⟩ = some (.bool n1) ∧ w.cell? ⟨b,off + j * 4 + 1,none⟩ = some (.slice a1 l1 c1) ∧ w.cell? ⟨b,off + j * 4 + 2,none⟩ = some (.bool n2) ∧ w.cell? ⟨b,off + j * 4 + 3,none⟩ = some (.slice a2 l2 c2) ∧ Zi w (.agg #[.bool n1,.slice a1 l1 c1]) (P j) k ∧ Zi w (.agg #[.bool n2,.slice a2 l2 c2]) (Q j) k)
theorem Qs.now {w w' : World} {v : Value} {n k : Nat} {P Q : Nat → Int} (h : Qs w v n P Q k) (hb : Below w.heap.size w w') : Qs w' v n P Q k := by
 obtain ⟨a,c,h1,h2,h3,h4⟩ := h;refine ⟨a,c,h1,h2,h3,?_⟩;rcases h4 with h4 | ⟨b,off,h5,h6,h7⟩
 ·exact .inl h4
 ·refine .inr ⟨b,off,h5,Nat.lt_of_lt_of_le h6 hb.size,fun j hj => ?_⟩
  obtain ⟨n1,a1,l1,c1,n2,a2,l2,c2,e1,e2,e3,e4,e5,e6⟩ := h7 j hj;exact ⟨n1,a1,l1,c1,n2,a2,l2,c2,cnow hb e1,cnow hb e2,cnow hb e3,cnow hb e4,e5.now hb,e6.now hb⟩
theorem Qs.more {w : World} {v : Value} {n k l : Nat} {P Q : Nat → Int} (h : Qs w v n P Q k) (hl : k ≤ l) : Qs w v n P Q l := by
 obtain ⟨a,c,h1,h2,h3,h4⟩ := h;refine ⟨a,c,h1,h2,h3,?_⟩;rcases h4 with h4 | ⟨b,off,h5,h6,h7⟩
 ·exact .inl h4
 ·refine .inr ⟨b,off,h5,h6,fun j hj => ?_⟩
  obtain ⟨n1,a1,l1,c1,n2,a2,l2,c2,e1,e2,e3,e4,e5,e6⟩ := h7 j hj;exact ⟨n1,a1,l1,c1,n2,a2,l2,c2,e1,e2,e3,e4,e5.more hl,e6.more hl⟩
theorem Qs.form {w : World} {v : Value} {n k : Nat} {P Q : Nat → Int} (h : Qs w v n P Q k) : ∃ a c,v = .slice a n c ∧ n ≤ c ∧ n ≤ 1048576 ∧ (0 < n → ∃ b off,a = some ⟨b,off,none⟩) := by
 obtain ⟨a,c,h1,h2,h3,h4⟩ := h;refine ⟨a,c,h1,h2,h3.1,fun q => ?_⟩;rcases h4 with h4 | ⟨b,off,h5,h6,h7⟩
 ·omega
 ·exact ⟨b,off,h5⟩
theorem Qs.at {w : World} {b off n l c k j : Nat} {P Q : Nat → Int} (h : Qs w (.slice (some ⟨b,off,none⟩) l c) n P Q k) (hj : j < n) : ∃ n1 a1 l1 c1 n2 a2 l2 c2,w.cell? ⟨b,off + j * 4,none⟩ = some (.bool n1) ∧ w.cell? ⟨b,off + j * 4 + 1,none⟩ = some (.slice a1 l1 c1) ∧ w.cell? ⟨b,off + j * 4 + 2,none⟩ = some (.bool n2) ∧ w.cell? ⟨b,off + j * 4 + 3,none⟩ = some (.slice a2 l2 c2) ∧ Zi w (.agg #[.bool n1,.slice a1 l1 c1]) (P j) k ∧ Zi w (.agg #[.bool n2,.slice a2 l2 c2]) (Q j) k := by
 obtain ⟨a',c',h1,h2,h3,h4⟩ := h;simp only [Value.slice.injEq] at h1;obtain ⟨rfl,-,-⟩ := h1;rcases h4 with h4 | ⟨b',off',h5,h6,h7⟩
 ·omega
 ·simp only [Option.some.injEq,Addr.mk.injEq,and_true] at h5
  obtain ⟨rfl,rfl⟩ := h5;exact h7 j hj
def cl4 (n : Nat) (C : Nat → Nat → Value) : List Value := (List.range (n * 4)).map fun t => C (t / 4) (t % 4)
theorem zoC (n : Nat) (C : Nat → Nat → Value) : (cl4 n C).length = n * 4 := by simp [cl4]
theorem zDD {n j r : Nat} {C : Nat → Nat → Value} (hj : j < n) (hr : r < 4) : (cl4 n C)[j * 4 + r]? = some (C j r) := by
 have h : j * 4 + r < n * 4 := by omega
 have e1 : (j * 4 + r) / 4 = j := by omega
 have e2 : (j * 4 + r) % 4 = r := by omega
 simp [cl4,h,e1,e2]
def up4 (C : Nat → Nat → Value) (j : Nat) (D : Nat → Value) : Nat → Nat → Value := fun i r => if i = j then D r else C i r
theorem zlF {n j : Nat} {C : Nat → Nat → Value} {D : Nat → Value} (hj : j < n) : ((((cl4 n C).set (j * 4) (D 0)).set (j * 4 + 1) (D 1)).set (j * 4 + 2) (D 2)).set (j * 4 + 3) (D 3) = cl4 n (up4 C j D) := by
 apply List.ext_getElem?
 intro t
 by_cases q : t < n * 4
 ·obtain ⟨i,r,hr,rfl⟩ : ∃ i r,r < 4 ∧ t = i * 4 + r := ⟨t / 4,t % 4,by omega,by omega⟩
  have hi : i < n := by omega
  rw [zDD hi hr];simp only [List.getElem?_set,List.length_set,zoC];unfold up4
  by_cases e : i = j
  ·subst e
   rw [if_pos rfl]
   match r,hr with
   | 0,_ => simp;omega
   | 1,_ => simp;omega
   | 2,_ => simp;omega
   | 3,_ => simp;omega
  ·rw [if_neg e,if_neg (by omega),if_neg (by omega),if_neg (by omega),if_neg (by omega),zDD hi hr]
 ·rw [List.getElem?_eq_none (by simp [zoC];omega),List.getElem?_eq_none (by simp [zoC];omega)]
def IsQ (D : Nat → Value) : Prop := ∃ n1 a1 l1 c1 n2 a2 l2 c2,D 0 = .bool n1 ∧ D 1 = .slice a1 l1 c1 ∧ D 2 = .bool n2 ∧ D 3 = .slice a2 l2 c2
def FilQ (w : World) (g n i : Nat) (R : Nat → Rat) (k : Nat) : Prop := ∃ C,Cel w g 47 (cl4 n C) ∧ (∀ j,j < n → IsQ (C j)) ∧ ∀ j,j < i → Zm 0 w (.agg #[C j 0,C j 1]) (R j).num k ∧ Zm 0 w (.agg #[C j 2,C j 3]) ((R j).den : Int) k
theorem FilQ.step {w w' : World} {g n i k : Nat} {R : Nat → Rat} (h : FilQ w g n i R k) (hb : Below w.heap.size w w') : FilQ w' g n i R k := by
 obtain ⟨C,h1,h2,h3⟩ := h;exact ⟨C,h1.step hb,h2,fun j hj => ⟨(h3 j hj).1.now hb,(h3 j hj).2.now hb⟩⟩
theorem FilQ.ty {T : TypeId} {w w' : World} {g n i k : Nat} {R : Nat → Rat} (h : FilQ w g n i R k) (ht : Ty T w w') (h1 : 47 ≠ T) (h2 : 120 ≠ T) : FilQ w' g n i R k := by
 obtain ⟨C,q1,q2,q3⟩ := h;exact ⟨C,q1.ty13 ht h1,q2,fun j hj => ⟨(q3 j hj).1.ty ht h2,(q3 j hj).2.ty ht h2⟩⟩
theorem FilQ.cells {w : World} {g n i k j : Nat} {R : Nat → Rat} (h : FilQ w g n i R k) (hj : j < n) : ∃ n1 a1 l1 c1 n2 a2 l2 c2,w.cell? ⟨g,j * 4,none⟩ = some (.bool n1) ∧ w.cell? ⟨g,j * 4 + 1,none⟩ = some (.slice a1 l1 c1) ∧ w.cell? ⟨g,j * 4 + 2,none⟩ = some (.bool n2) ∧ w.cell? ⟨g,j * 4 + 3,none⟩ = some (.slice a2 l2 c2) ∧ w.frozen? ⟨g,j * 4,none⟩ = false ∧ w.frozen? ⟨g,j * 4 + 1,none⟩ = false ∧ w.frozen? ⟨g,j * 4 + 2,none⟩ = false ∧ w.frozen? ⟨g,j * 4 + 3,none⟩ = false ∧ (j < i → Zm 0 w (.agg #[.bool n1,.slice a1 l1 c1]) (R j).num k ∧ Zm 0 w (.agg #[.bool n2,.slice a2 l2 c2]) ((R j).den : Int) k) := by
 obtain ⟨C,h1,h2,h3⟩ := h;obtain ⟨n1,a1,l1,c1,n2,a2,l2,c2,e1,e2,e3,e4⟩ := h2 j hj;refine ⟨n1,a1,l1,c1,n2,a2,l2,c2,?_,?_,?_,?_,h1.fz _,h1.fz _,h1.fz _,h1.fz _,fun q => ?_⟩
 ·rw [← e1];exact h1.at (i := j * 4) (by have := zDD (C := C) hj (r := 0) (by omega);simpa using this)
 ·rw [← e2];exact h1.at (zDD hj (by omega))
 ·rw [← e3];exact h1.at (zDD hj (by omega))
 ·rw [← e4];exact h1.at (zDD hj (by omega))
 ·rw [← e1,← e2,← e3,← e4];exact h3 j q
abbrev zHD (w : World) (g j : Nat) (x0 x1 x2 x3 : Value) : World := (((w.setCell ⟨g,j * 4,none⟩ x0).setCell ⟨g,j * 4 + 1,none⟩ x1).setCell ⟨g,j * 4 + 2,none⟩ x2).setCell ⟨g,j * 4 + 3,none⟩ x3
theorem FilQ.put {w : World} {g n i j k : Nat} {R : Nat → Rat} {x0 x1 x2 x3 : Value} {q : Rat} (h : FilQ w g n i R k) (hj : j < n) (h1 : Zm 0 w (.agg #[x0,x1]) q.num k) (h2 : Zm 0 w (.agg #[x2,x3]) (q.den : Int) k) :
  FilQ (zHD w g j x0 x1 x2 x3) g n i (fun t => if t = j then q else R t) k ∧ Ty 47 w (zHD w g j x0 x1 x2 x3) := by
 obtain ⟨C,c1,c2,c3⟩ := h;have d1 := c1.set (j * 4) x0;have d2 := d1.set (j * 4 + 1) x1;have d3 := d2.set (j * 4 + 2) x2;have d4 := d3.set (j * 4 + 3) x3;have ty : Ty 47 w (zHD w g j x0 x1 x2 x3) := (((Ty.set c1).trans (Ty.set d1)).trans (Ty.set d2)).trans (Ty.set d3);obtain ⟨m1,xs1,a1,cc1,e1,_⟩ := id h1;obtain ⟨m2,xs2,a2,cc2,e2,_⟩ := id h2;simp only [Value.agg.injEq,Array.mk.injEq,List.cons.injEq,and_true] at e1 e2;obtain ⟨rfl,rfl⟩ := e1;obtain ⟨rfl,rfl⟩ := e2
 let D : Nat → Value := fun r => match r with
  | 0 => .bool m1
  | 1 => .slice a1 xs1.length cc1
  | 2 => .bool m2
  | _ => .slice a2 xs2.length cc2
 refine ⟨⟨up4 C j D,?_,fun t ht => ?_,fun t ht => ?_⟩,ty⟩
 ·rw [← zlF (D := D) hj];exact d4
 ·unfold up4
  by_cases e : t = j
  ·rw [show (fun r => if t = j then D r else C t r) = D from by funext r;rw [if_pos e]]
   exact ⟨m1,a1,_,cc1,m2,a2,_,cc2,rfl,rfl,rfl,rfl⟩
  ·rw [show (fun r => if t = j then D r else C t r) = C t from by funext r;rw [if_neg e]]
   exact c2 t ht
 ·unfold up4
  by_cases e : t = j
  ·simp only [e,if_true]
   exact ⟨h1.ty ty (by decide),h2.ty ty (by decide)⟩
  ·simp only [e,if_false]
   exact ⟨(c3 t ht).1.ty ty (by decide),(c3 t ht).2.ty ty (by decide)⟩
theorem FilQ.put1 {w : World} {g n i k : Nat} {R : Nat → Rat} {x0 x1 x2 x3 : Value} (h : FilQ w g n i R k) (hj : i < n) (h1 : Zm 0 w (.agg #[x0,x1]) (R i).num k) (h2 : Zm 0 w (.agg #[x2,x3]) ((R i).den : Int) k) :
  FilQ (zHD w g i x0 x1 x2 x3) g n (i + 1) R k ∧ Ty 47 w (zHD w g i x0 x1 x2 x3) := by
 obtain ⟨C,c1,c2,c3⟩ := h;have d1 := c1.set (i * 4) x0;have d2 := d1.set (i * 4 + 1) x1;have d3 := d2.set (i * 4 + 2) x2;have d4 := d3.set (i * 4 + 3) x3;have ty : Ty 47 w (zHD w g i x0 x1 x2 x3) := (((Ty.set c1).trans (Ty.set d1)).trans (Ty.set d2)).trans (Ty.set d3);obtain ⟨m1,xs1,a1,cc1,e1,_⟩ := id h1;obtain ⟨m2,xs2,a2,cc2,e2,_⟩ := id h2;simp only [Value.agg.injEq,Array.mk.injEq,List.cons.injEq,and_true] at e1 e2;obtain ⟨rfl,rfl⟩ := e1;obtain ⟨rfl,rfl⟩ := e2
 let D : Nat → Value := fun r => match r with
  | 0 => .bool m1
  | 1 => .slice a1 xs1.length cc1
  | 2 => .bool m2
  | _ => .slice a2 xs2.length cc2
 refine ⟨⟨up4 C i D,?_,fun t ht => ?_,fun t ht => ?_⟩,ty⟩
 ·rw [← zlF (D := D) hj];exact d4
 ·unfold up4
  by_cases e : t = i
  ·rw [show (fun r => if t = i then D r else C t r) = D from by funext r;rw [if_pos e]]
   exact ⟨m1,a1,_,cc1,m2,a2,_,cc2,rfl,rfl,rfl,rfl⟩
  ·rw [show (fun r => if t = i then D r else C t r) = C t from by funext r;rw [if_neg e]]
   exact c2 t ht
 ·unfold up4
  by_cases e : t = i
  ·simp only [e,if_true]
   exact ⟨h1.ty ty (by decide),h2.ty ty (by decide)⟩
  ·simp only [e,if_false]
   exact ⟨(c3 t (by omega)).1.ty ty (by decide),(c3 t (by omega)).2.ty ty (by decide)⟩
theorem FilQ.blk {w : World} {g n i k : Nat} {R : Nat → Rat} (h : FilQ w g n i R k) : g < w.heap.size := by
 obtain ⟨C,c1,_⟩ := h;exact c1.blk
theorem FilQ.congr {w : World} {g n i k : Nat} {R R' : Nat → Rat} (h : FilQ w g n i R k) (e : ∀ j,j < i → R j = R' j) : FilQ w g n i R' k := by
 obtain ⟨C,c1,c2,c3⟩ := h;exact ⟨C,c1,c2,fun j hj => by rw [← e j hj];exact c3 j hj⟩
theorem Tryz.infoF17 : (Tryz.prog.info? 47).map (fun i => (i.zero,i.size,i.bytes)) = some (some (.agg #[.bool false,.slice none 0 0,.bool false,.slice none 0 0]),4,64) := by kernel_rfl
def zero4 : Nat → Nat → Value := fun _ r => match r with
 | 0 => .bool false
 | 1 => .slice none 0 0
 | 2 => .bool false
 | _ => .slice none 0 0
theorem madeCells_four (m : Nat) : madeCells (Value.agg #[.bool false,.slice none 0 0,.bool false,.slice none 0 0]).cells (m * 4) = (cl4 m zero4).toArray := by
 apply Array.ext
 ·simp [size_madeCells,Value.cells,cl4]
 ·intro i h1 h2
  have : i % 4 = 0 ∨ i % 4 = 1 ∨ i % 4 = 2 ∨ i % 4 = 3 := by omega
  rcases this with q | q | q | q <;> simp [madeCells,Value.cells,cl4,zero4,q]
theorem zJB (w : World) {ops : Array Oper} {rest : List Oper} {o : Oper} {a : Act} {Q : Exit → Act → World → Prop}
  (hg : o.guard = none) (l c : Operand) (hop : o.op = Op.makeSlice 22 l c)
  (L C : Int) (n m : Nat) (hl : a.eval l = .int .i64 L) (hc : a.eval c = .int .i64 C) (hL : L = (n : Int)) (hC : C = (m : Int)) (hnm : n ≤ m) (hm : m ≤ 2000000)
  (hK : ∀ w',Hid (∀ R k,FilQ w' w.heap.size m 0 R k) → Hid (Below w.heap.size w w') → Hid (w'.heap.size = w.heap.size + 1) → wpList Tryz.prog ops Q rest (a.put o.dst (.slice (some ⟨w.heap.size,0,none⟩) n m)) w') :
  wpList Tryz.prog ops Q (o :: rest) a w := by
 refine wpList_plain hg fun K hK' => ?_
 obtain ⟨i,hi,hz,hs,hb⟩ := info_parts Tryz.infoF17;have hrun := run_make (P := Tryz.prog) w 22 47 i (.agg #[.bool false,.slice none 0 0,.bool false,.slice none 0 0]) Tryz.underlying22 hi hz .i64 .i64 n m (by omega) (by omega) (by rw [hb];omega) (by omega);subst hL;subst hC;rw [hs,Int.toNat_natCast,Int.toNat_natCast,madeCells_four] at hrun;unfold Oper.wp;simp [execOp,hop,hl,hc,hrun,Result.andThen];refine hK' _ _ (hK _ (fun R k => ⟨zero4,?_,fun j hj => ⟨false,none,0,0,false,none,0,0,rfl,rfl,rfl,rfl⟩,fun j hj => by omega⟩) ((Below.refl _ _).alloc (Nat.le_refl _) _) ?_)
 ·unfold Cel;exact heap_alloc_new w _
 ·unfold Hid;simp
def QLs (w : World) (v : Value) (m n : Nat) (P Q : Nat → Nat → Int) (k : Nat) : Prop :=
 ∃ a c,v = .slice a m c ∧ m ≤ c ∧ (m = 0 ∨ ∃ b off,a = some ⟨b,off,none⟩ ∧ b < w.heap.size ∧ ∀ i,i < m → ∃ u,w.cell? ⟨b,off + i,none⟩ = some u ∧ Qs w u n (P i) (Q i) k)
theorem QLs.now {w w' : World} {v : Value} {m n k : Nat} {P Q : Nat → Nat → Int} (h : QLs w v m n P Q k) (hb : Below w.heap.size w w') : QLs w' v m n P Q k := by
 obtain ⟨a,c,h1,h2,h4⟩ := h;refine ⟨a,c,h1,h2,?_⟩;rcases h4 with h4 | ⟨b,off,h5,h6,h7⟩
 ·exact .inl h4
 ·refine .inr ⟨b,off,h5,Nat.lt_of_lt_of_le h6 hb.size,fun i hi => ?_⟩
  obtain ⟨u,e1,e2⟩ := h7 i hi;exact ⟨u,cnow hb e1,e2.now hb⟩
def FilS (wx : World) (g n i : Nat) (Pr : Nat → Value → Prop) : Prop := ∃ vs : List Value,Cel wx g 22 vs ∧ vs.length = n ∧ (∀ u ∈ vs,∃ a l c,u = .slice a l c) ∧ ∀ (j : Nat) (u : Value),j < i → vs[j]? = some u → Pr j u
theorem FilS.put {w : World} {g n i : Nat} {P P' : Nat → Value → Prop} {a : Option Addr} {l c : Nat} (h : FilS w g n i P) (hi : i < n) (hP : ∀ j u,j < i → P j u → P' j u) (hx : P' i (.slice a l c)) : FilS (w.setCell ⟨g,i,none⟩ (.slice a l c)) g n (i + 1) P' := by
 obtain ⟨vs,h1,h2,h3,h4⟩ := h;refine ⟨vs.set i (.slice a l c),h1.set i _,by simpa using h2,fun u hu => ?_,fun j u hj hu => ?_⟩
 ·rcases List.mem_or_eq_of_mem_set hu with q | rfl
  ·exact h3 u q
  ·exact ⟨_,_,_,rfl⟩
 ·by_cases q : j = i
  ·subst q
   rw [List.getElem?_set_self (by omega),Option.some.injEq] at hu;rw [← hu];exact hx
  ·rw [List.getElem?_set_ne (by omega)] at hu
   exact hP j u (by omega) (h4 j u (by omega) hu)
theorem FilS.cells {w : World} {g n i j : Nat} {P : Nat → Value → Prop} (h : FilS w g n i P) (hj : j < n) : ∃ a l c,w.cell? ⟨g,j,none⟩ = some (.slice a l c) ∧ w.frozen? ⟨g,j,none⟩ = false ∧ (j < i → P j (.slice a l c)) := by
 obtain ⟨vs,h1,h2,h3,h4⟩ := h;have hv : vs[j]? = some (vs[j]'(by omega)) := List.getElem?_eq_getElem (by omega);obtain ⟨a,l,c,e⟩ := h3 _ (List.mem_of_getElem? hv);rw [e] at hv;exact ⟨a,l,c,h1.at hv,h1.fz j,fun q => h4 j _ q hv⟩
theorem FilS.blk {w : World} {g n i : Nat} {P : Nat → Value → Prop} (h : FilS w g n i P) : g < w.heap.size := by
 obtain ⟨vs,h1,_⟩ := h;exact h1.blk
theorem Tryz.infoS17 : (Tryz.prog.info? 22).map (fun i => (i.zero,i.size,i.bytes)) = some (some (.slice none 0 0),1,24) := by kernel_rfl
theorem wpList_make_rows17 (w : World) {ops : Array Oper} {rest : List Oper} {o : Oper} {a : Act} {Q : Exit → Act → World → Prop}
  (hg : o.guard = none) (l c : Operand) (hop : o.op = Op.makeSlice 66 l c)
  (L C : Int) (n m : Nat) (hl : a.eval l = .int .i64 L) (hc : a.eval c = .int .i64 C) (hL : L = (n : Int)) (hC : C = (m : Int)) (hnm : n ≤ m) (hm : m ≤ 2000000)
  (hK : ∀ w',Hid (Cel w' w.heap.size 22 (List.replicate m (.slice none 0 0))) → Hid (Below w.heap.size w w') → Hid (w'.heap.size = w.heap.size + 1) → wpList Tryz.prog ops Q rest (a.put o.dst (.slice (some ⟨w.heap.size,0,none⟩) n m)) w') :
  wpList Tryz.prog ops Q (o :: rest) a w := by
 refine wpList_plain hg fun K hK' => ?_
 obtain ⟨i,hi,hz,hs,hb⟩ := info_parts Tryz.infoS17;have hrun := run_make (P := Tryz.prog) w 66 22 i (.slice none 0 0) Tryz.underlying66 hi hz .i64 .i64 n m (by omega) (by omega) (by rw [hb];omega) (by omega);subst hL;subst hC;rw [hs,Nat.mul_one,Int.toNat_natCast,Int.toNat_natCast,zuB] at hrun;unfold Oper.wp;simp [execOp,hop,hl,hc,hrun,Result.andThen];refine hK' _ _ (hK _ ?_ ((Below.refl _ _).alloc (Nat.le_refl _) _) ?_)
 ·unfold Hid Cel;simpa using heap_alloc_new w _
 ·unfold Hid;simp
theorem FilS.start {w : World} {g n : Nat} (h : Cel w g 22 (List.replicate n (.slice none 0 0))) (P : Nat → Value → Prop) : FilS w g n 0 P := ⟨_,h,by simp,fun u hu => ⟨_,_,_,List.eq_of_mem_replicate hu⟩,fun j u hj => by omega⟩
theorem Qs.piece {w : World} {b off l cap n k i c : Nat} {P Q : Nat → Int} (h : Qs w (.slice (some ⟨b,off,none⟩) l cap) n P Q k) (hi : i + c ≤ n) {cap' : Nat} (hc : c ≤ cap') : Qs w (.slice (some ⟨b,off + i * 4,none⟩) c cap') c (fun j => P (i + j)) (fun j => Q (i + j)) k := by
 have h0 := h;obtain ⟨a',c',h1,h2,h3,h4⟩ := h;refine ⟨_,_,rfl,hc,⟨by have := h3.1;omega,fun q => by cases q⟩,?_⟩
 by_cases q : c = 0
 ·exact .inl q
 ·rcases h4 with h4 | ⟨b',off',h5,h6,h7⟩
  ·omega
  ·simp only [Value.slice.injEq] at h1
   obtain ⟨rfl,-,-⟩ := h1;simp only [Option.some.injEq,Addr.mk.injEq,and_true] at h5;obtain ⟨rfl,rfl⟩ := h5;refine .inr ⟨b,off + i * 4,rfl,h6,fun j hj => ?_⟩;have := h7 (i + j) (by omega);rw [Nat.add_mul,← Nat.add_assoc] at this;exact this
theorem slice_row17 (w : World) (b off l cap lo hi : Nat) (h : lo < hi) (h1 : hi ≤ l) (h2 : l ≤ cap) :
  (Instr.slice 22 (.slice (some ⟨b,off,none⟩) l cap) (some (.int .i64 (lo : Int))) (some (.int .i64 (hi : Int))) (some (.int .i64 (hi : Int)))).run Tryz.prog w = .ok (.slice (some ⟨b,off + lo * 4,none⟩) (hi - lo) (hi - lo)) w := by
 have i1 : (0 : Int) ≤ (lo : Int) := by omega
 have i2 : (lo : Int) ≤ (hi : Int) := by omega
 have i3 : (hi : Int) ≤ (cap : Int) := by omega
 have i4 : ¬ hi = lo := by omega
 have i5 : (0 : Int) ≤ (hi : Int) := by omega
 go_simp
theorem slice_none17 (w : World) (a : Option Addr) (cap : Nat) : (Instr.slice 22 (.slice a 0 cap) (some (.int .i64 0)) (some (.int .i64 0)) (some (.int .i64 0))).run Tryz.prog w = .ok (.slice a 0 0) w := by
 have i3 : (0 : Int) ≤ (cap : Int) := by omega
 go_simp
abbrev qmv (r c : Nat) (at_ : Value) : Value := .agg #[.int .i64 (r : Int),.int .i64 (c : Int),at_]
def rwP (c : Nat) (P : Nat → Int) (i j : Nat) : Int := P (i * c + j)
theorem cut_row17 {w : World} {a : Option Addr} {l cap r c i k : Nat} {P Q : Nat → Int} (h : Qs w (.slice a l cap) l P Q k) (hl : l = r * c) (hi : i < r) :
  ∃ a',(∀ wx,(Instr.slice 22 (.slice a l cap) (some (.int .i64 ((i * c : Nat) : Int))) (some (.int .i64 (((i + 1) * c : Nat) : Int))) (some (.int .i64 (((i + 1) * c : Nat) : Int)))).run Tryz.prog wx = .ok (.slice a' c c) wx) ∧ Qs w (.slice a' c c) c (rwP c P i) (rwP c Q i) k := by
 by_cases hc : c = 0
 ·subst hc
  obtain rfl : l = 0 := by simpa using hl
  obtain ⟨a',c',h1,h2,h3,h4⟩ := h;simp only [Value.slice.injEq] at h1;obtain ⟨rfl,-,rfl⟩ := h1;refine ⟨a,fun wx => ?_,⟨_,_,rfl,Nat.le_refl _,⟨by omega,fun _ => rfl⟩,.inl rfl⟩⟩;rw [Nat.mul_zero,Nat.mul_zero];exact slice_none17 wx a cap
 ·have e1 : (i + 1) * c ≤ r * c := Nat.mul_le_mul_right c hi
  have e2 : (i + 1) * c = i * c + c := by rw [Nat.add_mul,Nat.one_mul]
  obtain ⟨a',c',h1,h2,h3,h4⟩ := id h;simp only [Value.slice.injEq] at h1;obtain ⟨rfl,-,rfl⟩ := h1;rcases h4 with q | ⟨b,off,rfl,h6,h7⟩
  ·omega
  ·refine ⟨some ⟨b,off + i * c * 4,none⟩,fun wx => ?_,?_⟩
   ·have := slice_row17 wx b off l cap (i * c) ((i + 1) * c) (by omega) (by omega) h2
    rw [show (i + 1) * c - i * c = c by omega] at this;exact this
   ·exact h.piece (by omega) (Nat.le_refl _)
def RoH (w0 w : World) (at_ : Value) (g r c : Nat) (P Q : Nat → Int) (k gk : Nat) (s : Value) (wx : World) : Prop :=
 ∃ i : Nat,s = .int .i64 (i : Int) ∧ i ≤ r ∧ gk = r - i ∧ FilS wx g r i (fun j u => Qs w0 u c (rwP c P j) (rwP c Q j) k) ∧ Cel wx w.heap.size 24 [.int .i64 (r : Int),.int .i64 (c : Int),at_] ∧ Below w.heap.size w wx
def Rod (w0 w : World) (r c : Nat) (P Q : Nat → Int) (k : Nat) (e : Ending) (w' : World) : Prop := ∃ g,e = .returned (.slice (some ⟨g,0,none⟩) r r) ∧ w.heap.size ≤ g ∧ FilS w' g r r (fun j u => Qs w0 u c (rwP c P j) (rwP c Q j) k) ∧ Below w.heap.size w w'
theorem zFG {w0 w : World} {a0 : Option Addr} {n c0 r c k : Nat} {P Q : Nat → Int} (ha : Qs w0 (.slice a0 n c0) n P Q k) (hl : n = r * c) (hr : r ≤ 64) (hc : c ≤ 64) :
  Calls Tryz.prog 23 #[qmv r c (.slice a0 n c0)] w (Rod w0 w r c P Q k) := by
 have A0 := hid ha;have HL := hid hl;clear ha hl;obtain ⟨W0,hW⟩ : ∃ W0,w.alloc (.cells #[.int .i64 (r : Int),.int .i64 (c : Int),.slice a0 n c0] 24) = W0 := ⟨_,rfl⟩
 obtain ⟨b0,sz0⟩ := alo1 w (.cells #[.int .i64 (r : Int),.int .i64 (c : Int),.slice a0 n c0] 24);rw [hW] at b0 sz0;have P1 : Hid (Cel W0 w.heap.size 24 [.int .i64 (r : Int),.int .i64 (c : Int),.slice a0 n c0]) := by unfold Hid;rw [← hW];exact Cel.new w _ _
 have c1 : (w.alloc (.cells #[.int .i64 (r : Int),.int .i64 (c : Int),.slice a0 n c0] 24)).cell? ⟨w.heap.size,0,none⟩ = some (.int .i64 (r : Int)) := by rw [hW];exact P1.out.at (i := 0) rfl
 have G0 := hid b0;have EW := hid hW;have SZ := hid sz0;clear b0 hW sz0;go_enter Tryz.func23,Tryz.ntmps23;go_wp2_with (at_make;rw [EW.out];refine wpList_make_rows17 _ rfl _ _ rfl _ _ r r rfl rfl rfl rfl (Nat.le_refl _) (by omega) ?_)
 intro w1 hrow hb1 hsz1;have H0 : Hid (RoH w0 w (.slice a0 n c0) W0.heap.size r c P Q k r (.int .i64 0) w1) := ⟨0,rfl,Nat.zero_le _,by omega,FilS.start hrow.out _,P1.out.step hb1.out,zAA G0.out hb1.out⟩
 have HGE : Hid (w.heap.size < W0.heap.size) := by unfold Hid;rw [SZ.out];omega
 clear hrow hb1 hsz1 P1 G0 EW SZ c1;generalize W0.heap.size = g at *;go_wp2_with fail
 go_loopg [10] r (fun gk s10 wx => RoH w0 w (.slice a0 n c0) g r c P Q k gk s10 wx)
 case atStart => exact H0.out
 case round =>
  clear H0;obtain ⟨i,rfl,hin,hg,hfil,hcel,hG⟩ := hrel;have FI := hid hfil;have P1 := hid hcel;have G := hid hG;have HG := hid hg;clear hfil hcel hG hg
  by_cases hlt : i < r
  ·have hlt' : (i : Int) < (r : Int) := by omega
   obtain ⟨a',hs,hp⟩ := cut_row17 (i := i) (c := c) A0.out HL.out hlt;have HP := hid hp;have hw := zVA (i := i) (by omega);have hm0 := zwC (i := i) (c := c) (by omega) hc;have hm1 := zwC (i := i + 1) (c := c) (by omega) hc;rw [show ((i + 1 : Nat) : Int) = (i : Int) + 1 by omega] at hm1;have HN1 : Hid (RoH w0 w (.slice a0 n c0) g r c P Q k (r - (i + 1)) (.int .i64 ((i + 1 : Nat) : Int)) (wr.setCell ⟨g,i,none⟩ (.slice a' c c))) :=
    ⟨i + 1,rfl,by omega,rfl,FI.out.put hlt (fun j u _ q => q) HP.out,P1.out.ne (by have := HGE.out;omega),bset G.out (by have := HGE.out;omega)⟩
   clear hp HP;generalize i * c = lo at *;generalize (i + 1) * c = hi at *;have hm2 := hm0;have hm3 := hm1;rw [IntKind.wrap_i64] at hm2 hm3;have k1 := P1.out.at (i := 1) rfl;have k2 := P1.out.at (i := 2) rfl;obtain ⟨u0,u1,u2,e0,e1,-⟩ := FI.out.cells hlt;have HMM : Hid (r - (i + 1) < gk) := by unfold Hid;rw [HG.out];omega
   clear FI P1 G HG;go_wp2_with fail;go_roundg (r - (i + 1))
   case rel => exact HN1.out
   case measure => exact HMM.out
  ·have hlt' : ¬ (i : Int) < (r : Int) := by omega
   obtain rfl : i = r := by omega
   have FIN : Hid (Rod w0 w i c P Q k (.returned (.slice (some ⟨g,0,none⟩) i i)) wr) := ⟨g,rfl,Nat.le_of_lt HGE.out,FI.out,G.out⟩
   clear FI P1 G HG;go_wp2;go_ret;exact FIN.out
theorem FilS.qls {w w0 : World} {g r c k : Nat} {P Q : Nat → Int} (h : FilS w g r r (fun j u => Qs w0 u c (rwP c P j) (rwP c Q j) k)) (hb : Below w0.heap.size w0 w) : QLs w (.slice (some ⟨g,0,none⟩) r r) r c (rwP c P) (rwP c Q) k := by
 refine ⟨_,_,rfl,Nat.le_refl _,.inr ⟨g,0,rfl,h.blk,fun i hi => ?_⟩⟩;obtain ⟨a,l,cc,e1,-,e2⟩ := h.cells hi;rw [Nat.zero_add];exact ⟨_,e1,(e2 hi).now hb⟩
def zqA (w : World) (p : Prop) (e : Ending) (w' : World) : Prop := ∃ b : Bool,e = .returned (.bool b) ∧ (b = true ↔ p) ∧ Below w.heap.size w w'
theorem isNo17 {w : World} {n1 n2 : Bool} {a1 a2 : Option Addr} {l1 c1 l2 c2 k : Nat} {D : Int} (h : Zi w (.agg #[.bool n2,.slice a2 l2 c2]) D k) : Calls Tryz.prog 39 #[.agg #[.bool n1,.slice a1 l1 c1,.bool n2,.slice a2 l2 c2]] w (zqA w (D = 0)) := by
 obtain ⟨V1,hV⟩ : ∃ V1,w.alloc (.cells #[.bool n1,.slice a1 l1 c1,.bool n2,.slice a2 l2 c2] 47) = V1 := ⟨_,rfl⟩
 obtain ⟨b,sz1⟩ := alo1 w (.cells #[.bool n1,.slice a1 l1 c1,.bool n2,.slice a2 l2 c2] 47);rw [hV] at b sz1;have C : Cel V1 w.heap.size 47 [.bool n1,.slice a1 l1 c1,.bool n2,.slice a2 l2 c2] := by rw [← hV];exact Cel.new w _ _
 have HS := hid (zHC (h.now b));have B1 := hid b;have EV := hid hV;have n2 := C.at (i := 2) rfl;have n3 := C.at (i := 3) rfl;rw [← hV] at n2 n3;clear h b sz1 hV C;go_enter Tryz.func39,Tryz.ntmps39;go_wp2_with fail;rw [EV.out];refine HS.out.mono ?_;rintro e w1 ⟨rfl,b⟩;have FF : Hid (zqA w (D = 0) (.returned (.bool (decide (cmpI D 0 = 0)))) w1) := by
  unfold Hid;rw [zrB];exact ⟨_,rfl,decide_eq_true_iff,zAA B1.out b⟩
 clear HS EV B1 b n2 n3;go_wp2;go_ret;exact FF.out
def IxF (w : World) (n : Nat) (Bad : Nat → Prop) (gk : Nat) (s : Value) (wx : World) : Prop := ∃ i : Nat,s = .int .i64 (i : Int) ∧ i ≤ n ∧ gk = n - i ∧ (∀ j,j < i → ¬ Bad j) ∧ Below w.heap.size w wx
def IxD (w : World) (n : Nat) (Bad : Nat → Prop) (e : Ending) (w' : World) : Prop := ∃ r : Int,e = .returned (.int .i64 r) ∧ ((0 : Int) ≤ r ↔ ∃ j,j < n ∧ Bad j) ∧ Below w.heap.size w w'
theorem indexF17 {w : World} {v : Value} {n k : Nat} {P Q : Nat → Int} (hv : Qs w v n P Q k) : Calls Tryz.prog 71 #[v,.func (.func 39) #[] #[]] w (IxD w n (fun j => Q j = 0)) := by
 have HV := hid hv;obtain ⟨a0,c0,rfl,hc0,hn,hf0⟩ := hv.form;have F0 := hid hf0;have H0 : Hid (IxF w n (fun j => Q j = 0) n (.int .i64 0) w) := ⟨0,rfl,Nat.zero_le _,rfl,fun j hj => by omega,Below.refl _ _⟩
 clear hv hf0;go_enter Tryz.func71,Tryz.ntmps71;go_wp2_with fail
 go_loopg [8] n (fun gk s8 wx => IxF w n (fun j => Q j = 0) gk s8 wx)
 case atStart => exact H0.out
 case round =>
  clear H0;obtain ⟨i,rfl,hi,hg,hz,hb⟩ := hrel;have HZ := hid hz;have HG := hid hg;have G := hid hb;clear hz hg hb
  by_cases hlt : i < n
  ·have hlt' : (i : Int) < (n : Int) := by omega
   obtain ⟨bv,ov,rfl⟩ := F0.out (by omega);obtain ⟨n1,a1,l1,c1,n2,a2,l2,c2,e1,e2,e3,e4,zp,zq⟩ := (HV.out.now G.out).at hlt;have HS := hid (isNo17 (n1 := n1) (a1 := a1) (l1 := l1) (c1 := c1) zq);have hw := zVA (i := i) (by omega);clear zp zq;go_wp2_with fail;refine HS.out.mono ?_;rintro e w1 ⟨bq,rfl,hbq,b⟩;have HBQ := hid hbq;have G1 := hid (zAA G.out b);clear hbq b HS G e1 e2 e3 e4;cases bq with
   | false =>
    have HN : Hid (IxF w n (fun j => Q j = 0) (n - (i + 1)) (.int .i64 ((i + 1 : Nat) : Int)) w1) := ⟨i + 1,rfl,by omega,rfl,fun j hj => by
     by_cases q : j < i
     ·exact HZ.out j q
     ·obtain rfl : j = i := by omega
      exact fun q => Bool.false_ne_true (HBQ.out.2 q),G1.out⟩
    have HMM : Hid (n - (i + 1) < gk) := by unfold Hid;rw [HG.out];omega
    clear HBQ G1 HZ HG;go_wp2_with fail;go_roundg (n - (i + 1))
    case rel => exact HN.out
    case measure => exact HMM.out
   | true =>
    have FF : Hid (IxD w n (fun j => Q j = 0) (.returned (.int .i64 (i : Int))) w1) := ⟨_,rfl,⟨fun _ => ⟨i,hlt,HBQ.out.1 rfl⟩,fun _ => by omega⟩,G1.out⟩
    clear HBQ G1 HZ HG;go_wp2;go_ret;exact FF.out
  ·have hlt' : ¬ (i : Int) < (n : Int) := by omega
   have FF : Hid (IxD w n (fun j => Q j = 0) (.returned (.int .i64 (-1))) wr) := ⟨_,rfl,⟨fun q => by omega,fun ⟨j,hj,q⟩ => absurd q (HZ.out j (by omega))⟩,G.out⟩
   clear HZ HG G;go_wp2;go_ret;exact FF.out
theorem containsF17 {w : World} {v : Value} {n k : Nat} {P Q : Nat → Int} (hv : Qs w v n P Q k) : Calls Tryz.prog 38 #[v,.func (.func 39) #[] #[]] w (zqA w (∃ j,j < n ∧ Q j = 0)) := by
 have HI := hid (indexF17 hv);obtain ⟨a0,c0,rfl,-,-,-⟩ := hv;go_enter Tryz.func38,Tryz.ntmps38;go_wp2_with fail;refine HI.out.mono ?_;rintro e w1 ⟨r,rfl,hr,b⟩;have FIN : Hid (zqA w (∃ j,j < n ∧ Q j = 0) (.returned (.bool (decide (0 ≤ r)))) w1) := ⟨_,rfl,by rw [decide_eq_true_eq];exact hr,b⟩
 clear HI hr b;go_wp2;go_ret;exact FIN.out
theorem hasNo17 {w : World} {r c : Int} {a : Option Addr} {l cap k : Nat} {P Q : Nat → Int} (hv : Qs w (.slice a l cap) l P Q k) : Calls Tryz.prog 54 #[.agg #[.int .i64 r,.int .i64 c,.slice a l cap]] w (zqA w (∃ j,j < l ∧ Q j = 0)) := by
 obtain ⟨W0,hW⟩ : ∃ W0,w.alloc (.cells #[.int .i64 r,.int .i64 c,.slice a l cap] 24) = W0 := ⟨_,rfl⟩
 obtain ⟨b0,sz0⟩ := alo1 w (.cells #[.int .i64 r,.int .i64 c,.slice a l cap] 24);rw [hW] at b0 sz0;have P1 : Hid (Cel W0 w.heap.size 24 [.int .i64 r,.int .i64 c,.slice a l cap]) := by unfold Hid;rw [← hW];exact Cel.new w _ _
 have x2 := P1.out.at (i := 2) rfl;rw [← hW] at x2;have HI := hid (containsF17 (hv.now b0));have G0 := hid b0;have EW := hid hW;clear b0 sz0 hW P1 hv;go_enter Tryz.func54,Tryz.ntmps54;go_wp2_with fail;rw [EW.out];refine HI.out.mono ?_;rintro e w1 ⟨bq,rfl,hbq,b⟩;have FIN : Hid (zqA w (∃ j,j < l ∧ Q j = 0) (.returned (.bool bq)) w1) := ⟨_,rfl,hbq,zAA G0.out b⟩
 clear HI hbq b G0 EW x2;go_wp2;go_ret;exact FIN.out
theorem isUnsound17 {w : World} {r c : Int} {a : Option Addr} {l cap : Nat} : Calls Tryz.prog 53 #[.agg #[.int .i64 r,.int .i64 c,.slice a l cap]] w (zqA w (¬ Snd r c l)) := by
 obtain ⟨W0,hW⟩ : ∃ W0,w.alloc (.cells #[.int .i64 r,.int .i64 c,.slice a l cap] 24) = W0 := ⟨_,rfl⟩
 obtain ⟨b0,sz0⟩ := alo1 w (.cells #[.int .i64 r,.int .i64 c,.slice a l cap] 24);rw [hW] at b0 sz0;have P1 : Hid (Cel W0 w.heap.size 24 [.int .i64 r,.int .i64 c,.slice a l cap]) := by unfold Hid;rw [← hW];exact Cel.new w _ _
 have x0 := P1.out.at (i := 0) rfl;have x1 := P1.out.at (i := 1) rfl;have x2 := P1.out.at (i := 2) rfl;rw [← hW] at x0 x1 x2;have G0 := hid b0;have EW := hid hW;clear b0 sz0 hW P1
 by_cases h1 : min r c < 0
 ·have FF : Hid (zqA w (¬ Snd r c l) (.returned (.bool true)) W0) := ⟨true,rfl,⟨fun _ h => by unfold Snd at h;omega,fun _ => rfl⟩,G0.out⟩
  go_enter Tryz.func53,Tryz.ntmps53;go_wp2;rw [EW.out];go_ret;exact FF.out
 by_cases h2 : 64 < max r c
 ·have FF : Hid (zqA w (¬ Snd r c l) (.returned (.bool true)) W0) := ⟨true,rfl,⟨fun _ h => by unfold Snd at h;omega,fun _ => rfl⟩,G0.out⟩
  have h1' : 0 ≤ min r c := by omega
  go_enter Tryz.func53,Tryz.ntmps53;go_wp2;rw [EW.out];go_ret;exact FF.out
 have h1' : 0 ≤ min r c := by omega
 have h2' : max r c ≤ 64 := by omega
 have hb1 : 0 ≤ r * c := Int.mul_nonneg (by omega) (by omega);have hb2 : r * c ≤ 64 * 64 := Int.mul_le_mul (by omega) (by omega) (by omega) (by omega);have hm : IntKind.i64.wrap (r * c) = r * c := by rw [zmA] <;> omega
 obtain ⟨p,hp⟩ : ∃ p,r * c = p := ⟨_,rfl⟩
 have HP := hid hp;rw [hp] at hm;have hm2 := hm;rw [← hp,IntKind.wrap_i64,hp] at hm2
 by_cases h3 : (l : Int) = p
 ·have FF : Hid (zqA w (¬ Snd r c l) (.returned (.bool false)) W0) := ⟨false,rfl,⟨fun q => (Bool.false_ne_true q).elim,fun q => absurd ⟨by omega,by omega,by omega,by omega,by rw [HP.out];exact h3⟩ q⟩,G0.out⟩
  have h3' : ((l : Int) != p) = false := by simp [h3]
  clear h3;rw [← hp] at hm hm2 h3';clear hp HP;go_enter Tryz.func53,Tryz.ntmps53;go_wp2;rw [EW.out];go_ret;exact FF.out
 ·have FF : Hid (zqA w (¬ Snd r c l) (.returned (.bool true)) W0) := ⟨true,rfl,⟨fun _ h => h3 (by rw [h.2.2.2.2,HP.out]),fun _ => rfl⟩,G0.out⟩
  have h3' : ((l : Int) != p) = true := by simp [h3]
  rw [← hp] at hm hm2 h3' h3;clear hp HP;go_enter Tryz.func53,Tryz.ntmps53;go_wp2;rw [EW.out];go_ret;exact FF.out
end Go.Proofs.YtffkmeocmjohmaaGreat
