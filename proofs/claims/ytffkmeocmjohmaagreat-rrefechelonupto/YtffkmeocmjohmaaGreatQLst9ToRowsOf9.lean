/-
 QLst9ToRowsOf9: Lst9, Fil9, Dot9, Rows9, RowsOf9, joined.
-/
import Derived.Test.YtffkmeocmjohmaaGreatQExact0ToCells6
import Derived.Test.YtffkmeocmjohmaaGreatQTailToMWord
import Derived.Deep.Slices
import Derived.Deep.AppendLies
import Derived.Deep.LoopGhost

set_option maxRecDepth 100000
set_option maxHeartbeats 6400000
set_option linter.unusedVariables false
set_option linter.unusedSimpArgs false
namespace Go.Proofs.YtffkmeocmjohmaaGreat
open Go.RowKit
def Prs (B : Nat) (w : World) (v : Value) (ps : List (Value × Value)) : Prop :=
 ∃ a c,v = .slice a ps.length c ∧ ps.length ≤ c ∧ ps.length ≤ 1048576 ∧ (a = none → c = 0) ∧ (ps = [] ∨ ∃ b off,a = some ⟨b,off,none⟩ ∧ B ≤ b ∧ b < w.heap.size ∧ ∀ j p,ps[j]? = some p → w.cell? ⟨b,off + j * 2,none⟩ = some p.1 ∧ w.cell? ⟨b,off + j * 2 + 1,none⟩ = some p.2)
theorem Prs.now {B : Nat} {w w' : World} {v : Value} {ps : List (Value × Value)} (h : Prs B w v ps) (hb : Below w.heap.size w w') : Prs B w' v ps := by
 obtain ⟨a,c,h1,h2,h3,hx,h4⟩ := h;refine ⟨a,c,h1,h2,h3,hx,?_⟩;rcases h4 with h4 | ⟨b,off,h5,h5',h6,h7⟩
 ·exact .inl h4
 ·exact .inr ⟨b,off,h5,h5',Nat.lt_of_lt_of_le h6 hb.size,fun j p hp => ⟨(hb.cell (p := ⟨b,off + j * 2,none⟩) h6).trans (h7 j p hp).1,(hb.cell (p := ⟨b,off + j * 2 + 1,none⟩) h6).trans (h7 j p hp).2⟩⟩
theorem Prs.form {B : Nat} {w : World} {v : Value} {ps : List (Value × Value)} (h : Prs B w v ps) : ∃ a c,v = .slice a ps.length c ∧ ps.length ≤ c ∧ ps.length ≤ 1048576 ∧ (a = none → c = 0) ∧ (ps ≠ [] → ∃ b off,a = some ⟨b,off,none⟩ ∧ B ≤ b ∧ b < w.heap.size) := by
 obtain ⟨a,c,h1,h2,h3,hx,h4⟩ := h;refine ⟨a,c,h1,h2,h3,hx,fun hne => ?_⟩;rcases h4 with h4 | ⟨b,off,h5,h5',h6,h7⟩
 ·exact absurd h4 hne
 ·exact ⟨b,off,h5,h5',h6⟩
theorem Prs.nil (B : Nat) (w : World) : Prs B w (.slice none 0 0) [] := ⟨none,0,rfl,by simp,by simp,fun _ => rfl,.inl rfl⟩
theorem Prs.piece {B : Nat} {w : World} {b off l c : Nat} {ps : List (Value × Value)} (h : Prs B w (.slice (some ⟨b,off,none⟩) l c) ps) {i n : Nat} (hi : i + n ≤ ps.length) : Prs B w (.slice (some ⟨b,off + i * 2,none⟩) n (c - i)) ((ps.drop i).take n) := by
 obtain ⟨a',c',h1,h2,h3,hx,h4⟩ := h;simp only [Value.slice.injEq] at h1;obtain ⟨rfl,rfl,rfl⟩ := h1;have e : ((ps.drop i).take n).length = n := by simp;omega
 refine ⟨_,_,by rw [e],by omega,by omega,(fun q => by cases q),?_⟩;rcases h4 with rfl | ⟨b',off',h5,h5',h6,h7⟩
 ·exact .inl (by simp)
 ·simp only [Option.some.injEq,Addr.mk.injEq,and_true] at h5
  obtain ⟨rfl,rfl⟩ := h5;refine .inr ⟨b,off + i * 2,rfl,h5',h6,fun j p hp => ?_⟩;rw [List.getElem?_take] at hp
  by_cases q : j < n
  ·rw [if_pos q,List.getElem?_drop] at hp
   have := h7 (i + j) p hp;rw [Nat.add_mul,← Nat.add_assoc] at this;exact this
  ·rw [if_neg q] at hp;cases hp
def Zis (w : World) (ps : List (Value × Value)) (zs : List Int) (k : Nat) : Prop := ps.length = zs.length ∧ ∀ (j : Nat) (p : Value × Value) (z : Int),ps[j]? = some p → zs[j]? = some z → Zi w (.agg #[p.1,p.2]) z k
def Zcs (w : World) (ps : List (Value × Value)) (zs : List Int) (k : Nat) : Prop := ps.length = zs.length ∧ ∀ (j : Nat) (p : Value × Value) (z : Int),ps[j]? = some p → zs[j]? = some z → Zc w (.agg #[p.1,p.2]) z k
theorem Zcs.zis {w : World} {ps : List (Value × Value)} {zs : List Int} {k : Nat} (h : Zcs w ps zs k) : Zis w ps zs k := ⟨h.1,fun j p z hp hz => (h.2 j p z hp hz).zi⟩
theorem Zis.now {w w' : World} {ps : List (Value × Value)} {zs : List Int} {k : Nat} (h : Zis w ps zs k) (hb : Below w.heap.size w w') : Zis w' ps zs k := ⟨h.1,fun j p z hp hz => (h.2 j p z hp hz).now hb⟩
theorem Zcs.now {w w' : World} {ps : List (Value × Value)} {zs : List Int} {k : Nat} (h : Zcs w ps zs k) (hb : Below w.heap.size w w') : Zcs w' ps zs k := ⟨h.1,fun j p z hp hz => (h.2 j p z hp hz).now hb⟩
theorem Zcs.wk {w w' : World} {ps : List (Value × Value)} {zs : List Int} {k : Nat} (h : Zcs w ps zs k) (hb : Wk w w') : Zcs w' ps zs k := ⟨h.1,fun j p z hp hz => (h.2 j p z hp hz).wk hb⟩
theorem Zis.wk {w w' : World} {ps : List (Value × Value)} {zs : List Int} {k : Nat} (h : Zis w ps zs k) (hb : Wk w w') : Zis w' ps zs k := ⟨h.1,fun j p z hp hz => (h.2 j p z hp hz).wk hb⟩
theorem zVI {B : Nat} {w : World} {v : Value} {ps : List (Value × Value)} {zs : List Int} {k : Nat} (h : Prs B w v ps) (hz : Zis w ps zs k) : Zl w v zs k := by
 obtain ⟨a,c,h1,h2,h3,-,h4⟩ := h;obtain ⟨e,hz⟩ := hz;refine ⟨a,c,by rw [← e];exact h1,by omega,by omega,?_⟩;rcases h4 with h4 | ⟨b,off,h5,h5',h6,h7⟩
 ·subst h4
  exact .inl (List.eq_nil_of_length_eq_zero (by simpa using e.symm))
 ·refine .inr ⟨b,off,h5,h6,fun j hj => ?_⟩
  have hp : ps[j]? = some (ps[j]'(by omega)) := List.getElem?_eq_getElem (by omega);refine ⟨_,_,?_,?_,hz j _ _ hp (List.getElem?_eq_getElem hj)⟩
  ·rw [Nat.mul_comm];exact (h7 j _ hp).1
  ·rw [Nat.mul_comm];exact (h7 j _ hp).2
def flat : List (Value × Value) → List Value
 | [] => []
 | p :: r => p.1 :: p.2 :: flat r
theorem zNC : ∀ ps : List (Value × Value),(flat ps).length = ps.length * 2
 | [] => rfl
 | p :: r => by simp only [flat,List.length_cons,zNC r];omega
theorem zOC : ∀ ps qs : List (Value × Value),flat (ps ++ qs) = flat ps ++ flat qs
 | [],qs => rfl
 | p :: r,qs => by simp only [flat,List.cons_append,zOC r qs]
theorem zoB : ∀ {ps : List (Value × Value)} {i : Nat} {p : Value × Value},ps[i]? = some p → (flat ps)[i * 2]? = some p.1 ∧ (flat ps)[i * 2 + 1]? = some p.2
 | [],i,p,h => by simp at h
 | q :: r,0,p,h => by
  simp only [List.getElem?_cons_zero,Option.some.injEq] at h;subst h;exact ⟨rfl,rfl⟩
 | q :: r,i + 1,p,h => by
  simp only [List.getElem?_cons_succ] at h;have := zoB h;rw [show (i + 1) * 2 = i * 2 + 1 + 1 by omega];simp only [flat,List.getElem?_cons_succ];exact this
theorem zVG : ∀ {ps : List (Value × Value)} {i : Nat} (p : Value × Value),i < ps.length → ((flat ps).set (i * 2) p.1).set (i * 2 + 1) p.2 = flat (ps.set i p)
 | [],i,p,h => by simp at h
 | q :: r,0,p,h => rfl
 | q :: r,i + 1,p,h => by
  rw [show (i + 1) * 2 = i * 2 + 1 + 1 by omega];simp only [flat,List.set_cons_succ];rw [zVG p (by simpa using h)]
def ziG : Value × Value := (.bool false,.slice none 0 0)
def IsI (p : Value × Value) : Prop := ∃ n a l c,p = (.bool n,.slice a l c)
theorem Zi.isI {w : World} {x y : Value} {z : Int} {k : Nat} (h : Zi w (.agg #[x,y]) z k) : IsI (x,y) := by
 obtain ⟨n,xs,a,c,e,_⟩ := h;simp only [Value.agg.injEq,Array.mk.injEq,List.cons.injEq,and_true] at e;obtain ⟨rfl,rfl⟩ := e;exact ⟨n,a,xs.length,c,rfl⟩
def Arr (w : World) (g : Nat) (ps : List (Value × Value)) : Prop := Cel w g 45 (flat ps) ∧ ∀ p ∈ ps,IsI p
theorem Arr.step {w w' : World} {g : Nat} {ps : List (Value × Value)} (h : Arr w g ps) (hb : Below w.heap.size w w') : Arr w' g ps := ⟨h.1.step hb,h.2⟩
theorem Arr.at {w : World} {g : Nat} {ps : List (Value × Value)} (h : Arr w g ps) {i : Nat} {p : Value × Value} (hi : ps[i]? = some p) : w.cell? ⟨g,i * 2,none⟩ = some p.1 ∧ w.cell? ⟨g,i * 2 + 1,none⟩ = some p.2 := ⟨h.1.at (zoB hi).1,h.1.at (zoB hi).2⟩
theorem Arr.put {w : World} {g : Nat} {ps : List (Value × Value)} (h : Arr w g ps) {i : Nat} (hi : i < ps.length) {x y : Value} (hp : IsI (x,y)) : Arr ((w.setCell ⟨g,i * 2,none⟩ x).setCell ⟨g,i * 2 + 1,none⟩ y) g (ps.set i (x,y)) := by
 refine ⟨?_,fun p hp' => ?_⟩
 ·rw [← zVG (x,y) hi]
  exact (h.1.set _ _).set _ _
 ·rcases List.mem_or_eq_of_mem_set hp' with q | rfl
  ·exact h.2 p q
  ·exact hp
theorem Arr.wk {w : World} {g : Nat} {ps : List (Value × Value)} (h : Arr w g ps) {i : Nat} (hi : i < ps.length) (x y : Value) : Wk w ((w.setCell ⟨g,i * 2,none⟩ x).setCell ⟨g,i * 2 + 1,none⟩ y) := by
 have e := zoB (List.getElem?_eq_getElem hi);obtain ⟨n,a,l,c,q⟩ := h.2 _ (List.getElem_mem hi);rw [q] at e;refine (h.1.wk e.1 (noB n) x).trans ((h.1.set _ _).wk (u := .slice a l c) ?_ (noS a l c) y);rw [List.getElem?_set_ne (by omega)];exact e.2
theorem Arr.prs {w : World} {g : Nat} {ps : List (Value × Value)} (h : Arr w g ps) {B : Nat} (hB : B ≤ g) (hl : ps.length ≤ 1048576) {cap : Nat} (hc : ps.length ≤ cap) : Prs B w (.slice (some ⟨g,0,none⟩) ps.length cap) ps :=
 ⟨_,_,rfl,hc,hl,(fun q => by cases q),.inr ⟨g,0,rfl,hB,h.1.blk,fun j p hp => by rw [Nat.zero_add];exact h.at hp⟩⟩
theorem Tryz.infoZ9 : (Tryz.prog.info? 45).map (fun i => (i.zero,i.size,i.bytes)) = some (some (.agg #[.bool false,.slice none 0 0]),2,32) := by kernel_rfl
theorem zFF : ∀ m : Nat,flat (List.replicate m ziG) = (List.range (m * 2)).map (fun i => if i % 2 = 0 then Value.bool false else Value.slice none 0 0)
 | 0 => rfl
 | m + 1 => by
  rw [List.replicate_succ',zOC,zFF m,show (m + 1) * 2 = m * 2 + 1 + 1 by omega,List.range_succ,List.range_succ];simp [flat,ziG]
theorem madeCells_pairs9 (m : Nat) : madeCells (Value.agg #[.bool false,.slice none 0 0]).cells (m * 2) = (flat (List.replicate m ziG)).toArray := by
 rw [zFF]
 apply Array.ext
 ·simp [size_madeCells,Value.cells]
 ·intro i h1 h2
  have : i % 2 = 0 ∨ i % 2 = 1 := by omega
  rcases this with q | q <;> simp [madeCells,Value.cells,q]
theorem zwA (w : World) {ops : Array Oper} {rest : List Oper} {o : Oper} {a : Act} {Q : Exit → Act → World → Prop}
  (hg : o.guard = none) (l c : Operand) (hop : o.op = Op.makeSlice 33 l c)
  (L C : Int) (n m : Nat) (hl : a.eval l = .int .i64 L) (hc : a.eval c = .int .i64 C) (hL : L = (n : Int)) (hC : C = (m : Int)) (hnm : n ≤ m) (hm : m ≤ 2000000)
  (hK : ∀ w',Arr w' w.heap.size (List.replicate m ziG) → Below w.heap.size w w' → Hid (w'.heap.size = w.heap.size + 1) → wpList Tryz.prog ops Q rest (a.put o.dst (.slice (some ⟨w.heap.size,0,none⟩) n m)) w') :
  wpList Tryz.prog ops Q (o :: rest) a w := by
 refine wpList_plain hg fun K hK' => ?_
 obtain ⟨i,hi,hz,hs,hb⟩ := info_parts Tryz.infoZ9;have hrun := run_make (P := Tryz.prog) w 33 45 i (.agg #[.bool false,.slice none 0 0]) Tryz.underlying33 hi hz .i64 .i64 n m (by omega) (by omega) (by rw [hb];omega) (by omega);subst hL;subst hC;rw [hs,Int.toNat_natCast,Int.toNat_natCast] at hrun;rw [madeCells_pairs9] at hrun;unfold Oper.wp;simp [execOp,hop,hl,hc,hrun,Result.andThen];refine hK' _ _ (hK _ ⟨?_,fun p hp => ?_⟩ ((Below.refl _ _).alloc (Nat.le_refl _) _) ?_)
 ·unfold Cel;exact heap_alloc_new w _
 ·rw [List.eq_of_mem_replicate hp];exact ⟨false,none,0,0,rfl⟩
 ·unfold Hid;simp
def zqH (w : World) (g : Nat) (vs : List Value) : Prop := Cel w g 33 vs
theorem Tryz.infoL9 : (Tryz.prog.info? 33).map (fun i => (i.zero,i.size,i.bytes)) = some (some (.slice none 0 0),1,24) := by kernel_rfl
theorem zuB (m : Nat) : madeCells (Value.slice none 0 0).cells m = (List.replicate m (Value.slice none 0 0)).toArray := by
 apply Array.ext
 ·simp [size_madeCells]
 ·intro i h1 h2
  simp [madeCells,Value.cells,Nat.mod_one]
theorem wpList_make_rows (w : World) {ops : Array Oper} {rest : List Oper} {o : Oper} {a : Act} {Q : Exit → Act → World → Prop}
  (hg : o.guard = none) (l c : Operand) (hop : o.op = Op.makeSlice 62 l c)
  (L C : Int) (n m : Nat) (hl : a.eval l = .int .i64 L) (hc : a.eval c = .int .i64 C) (hL : L = (n : Int)) (hC : C = (m : Int)) (hnm : n ≤ m) (hm : m ≤ 2000000)
  (hK : ∀ w',zqH w' w.heap.size (List.replicate m (.slice none 0 0)) → Below w.heap.size w w' → Hid (w'.heap.size = w.heap.size + 1) → wpList Tryz.prog ops Q rest (a.put o.dst (.slice (some ⟨w.heap.size,0,none⟩) n m)) w') :
  wpList Tryz.prog ops Q (o :: rest) a w := by
 refine wpList_plain hg fun K hK' => ?_
 obtain ⟨i,hi,hz,hs,hb⟩ := info_parts Tryz.infoL9;have hrun := run_make (P := Tryz.prog) w 62 33 i (.slice none 0 0) Tryz.underlying62 hi hz .i64 .i64 n m (by omega) (by omega) (by rw [hb];omega) (by omega);subst hL;subst hC;rw [hs,Nat.mul_one,Int.toNat_natCast,Int.toNat_natCast,zuB] at hrun;unfold Oper.wp;simp [execOp,hop,hl,hc,hrun,Result.andThen];refine hK' _ _ (hK _ ?_ ((Below.refl _ _).alloc (Nat.le_refl _) _) ?_)
 ·unfold zqH Cel;simpa using heap_alloc_new w _
 ·unfold Hid;simp
theorem alo1 (w : World) (o1 : Obj) : Below w.heap.size w (w.alloc o1) ∧ (w.alloc o1).heap.size = w.heap.size + 1 := ⟨(Below.refl _ _).alloc (Nat.le_refl _) _,by simp⟩
theorem zVA {i : Nat} (h : i ≤ 1048576) : IntKind.i64.wrap ((i : Int) + 1) = ((i + 1 : Nat) : Int) := by rw [zmA] <;> omega
def Fil (wx : World) (g n i : Nat) (F : Nat → Int) (k : Nat) : Prop := ∃ ps,Arr wx g ps ∧ ps.length = n ∧ ∀ (j : Nat) (p : Value × Value),j < i → ps[j]? = some p → Zc wx (.agg #[p.1,p.2]) (F j) k
theorem Fil.start {w : World} {g n : Nat} (h : Arr w g (List.replicate n ziG)) (F : Nat → Int) (k : Nat) : Fil w g n 0 F k := ⟨_,h,by simp,fun j p hj => by omega⟩
theorem Fil.step {w w' : World} {g n i : Nat} {F : Nat → Int} {k : Nat} (h : Fil w g n i F k) (hb : Below w.heap.size w w') : Fil w' g n i F k := by
 obtain ⟨ps,h1,h2,h3⟩ := h;exact ⟨ps,h1.step hb,h2,fun j p hj hp => (h3 j p hj hp).now hb⟩
theorem Fil.put {w : World} {g n i : Nat} {F : Nat → Int} {k : Nat} {x y : Value} (h : Fil w g n i F k) (hi : i < n) (hz : Zc w (.agg #[x,y]) (F i) k) : Fil ((w.setCell ⟨g,i * 2,none⟩ x).setCell ⟨g,i * 2 + 1,none⟩ y) g n (i + 1) F k := by
 obtain ⟨ps,h1,h2,h3⟩ := h;have hw := h1.wk (i := i) (by omega) x y;refine ⟨ps.set i (x,y),h1.put (by omega) hz.zi.isI,by simpa using h2,fun j p hj hp => ?_⟩
 by_cases q : j = i
 ·subst q
  rw [List.getElem?_set_self (by omega),Option.some.injEq] at hp;subst hp;exact hz.wk hw
 ·rw [List.getElem?_set_ne (by omega)] at hp
  exact (h3 j p (by omega) hp).wk hw
theorem Fil.cells {w : World} {g n i j : Nat} {F : Nat → Int} {k : Nat} (h : Fil w g n i F k) (hj : j < n) : ∃ m a l c,w.cell? ⟨g,j * 2,none⟩ = some (.bool m) ∧ w.cell? ⟨g,j * 2 + 1,none⟩ = some (.slice a l c) ∧ w.frozen? ⟨g,j * 2,none⟩ = false ∧ w.frozen? ⟨g,j * 2 + 1,none⟩ = false := by
 obtain ⟨ps,h1,h2,h3⟩ := h;have hp : ps[j]? = some (ps[j]'(by omega)) := List.getElem?_eq_getElem (by omega);obtain ⟨m,a,l,c,e⟩ := h1.2 _ (List.getElem_mem (l := ps) (n := j) (by omega));have q := h1.at hp;rw [e] at q;exact ⟨m,a,l,c,q.1,q.2,h1.1.fz _,h1.1.fz _⟩
theorem Zl.form9 {w : World} {v : Value} {zs : List Int} {k : Nat} (h : Zl w v zs k) : ∃ a c,v = .slice a zs.length c ∧ zs.length ≤ c ∧ zs.length ≤ 1048576 ∧ (zs ≠ [] → ∃ b off,a = some ⟨b,off,none⟩) := by
 obtain ⟨a,c,h1,h2,h3,h4⟩ := h;refine ⟨a,c,h1,h2,h3,fun hne => ?_⟩;rcases h4 with h4 | ⟨b,off,h5,_⟩
 ·exact absurd h4 hne
 ·exact ⟨b,off,h5⟩
theorem Zl.at9 {w : World} {b off l c : Nat} {zs : List Int} {k : Nat} (h : Zl w (.slice (some ⟨b,off,none⟩) l c) zs k) {i : Nat} (hi : i < zs.length) : ∃ n,∃ xs : List Int,∃ a c,w.cell? ⟨b,off + i * 2,none⟩ = some (.bool n) ∧ w.cell? ⟨b,off + i * 2 + 1,none⟩ = some (.slice a xs.length c) ∧ Zi w (.agg #[.bool n,.slice a xs.length c]) zs[i] k := by
 obtain ⟨a',c',h1,h2,h3,h4⟩ := h;rcases h4 with h4 | ⟨b',off',h5,h6,h7⟩
 ·subst h4;simp at hi
 ·simp only [Value.slice.injEq] at h1
  obtain ⟨rfl,-,-⟩ := h1;simp only [Option.some.injEq,Addr.mk.injEq,and_true] at h5;obtain ⟨rfl,rfl⟩ := h5;obtain ⟨x,y,q1,q2,q3⟩ := h7 i hi;have q3' := q3;obtain ⟨n,xs,a,c,e,-⟩ := q3;simp only [Value.agg.injEq,Array.mk.injEq,List.cons.injEq,and_true] at e;obtain ⟨rfl,rfl⟩ := e;rw [Nat.mul_comm 2 i] at q1 q2;exact ⟨n,xs,a,c,q1,q2,q3'⟩
theorem Zm.parts {B : Nat} {w : World} {v : Value} {z : Int} {k : Nat} (h : Zm B w v z k) : ∃ n,∃ xs : List Int,∃ a c,v = .agg #[.bool n,.slice a xs.length c] := by
 obtain ⟨n,xs,a,c,e,-⟩ := h;exact ⟨n,xs,a,c,e⟩
theorem cnow {w w' : World} {p : Addr} {v : Value} (h : Below w.heap.size w w') (k : w.cell? p = some v) : w'.cell? p = some v := (h.cell (World.block_lt_of_cell? w p k)).trans k
theorem zSH {xs : List Int} {i : Nat} (h : i < xs.length) : xs[i] = xs.getD i 0 := by simp [h]
def Prr (B : Nat) (w : World) (v : Value) (pss : List (List (Value × Value))) : Prop :=
 ∃ a c,v = .slice a pss.length c ∧ pss.length ≤ c ∧ pss.length ≤ 1048576 ∧ (pss = [] ∨ ∃ b off,a = some ⟨b,off,none⟩ ∧ b < w.heap.size ∧ ∀ (j : Nat) (ps : List (Value × Value)),pss[j]? = some ps → ∃ u,w.cell? ⟨b,off + j,none⟩ = some u ∧ Prs B w u ps)
theorem Prr.now {B : Nat} {w w' : World} {v : Value} {pss : List (List (Value × Value))} (h : Prr B w v pss) (hb : Below w.heap.size w w') : Prr B w' v pss := by
 obtain ⟨a,c,h1,h2,h3,h4⟩ := h;refine ⟨a,c,h1,h2,h3,?_⟩;rcases h4 with h4 | ⟨b,off,h5,h6,h7⟩
 ·exact .inl h4
 ·refine .inr ⟨b,off,h5,Nat.lt_of_lt_of_le h6 hb.size,fun j ps hp => ?_⟩
  obtain ⟨u,q1,q2⟩ := h7 j ps hp;exact ⟨u,(hb.cell (p := ⟨b,off + j,none⟩) h6).trans q1,q2.now hb⟩
theorem Prr.form {B : Nat} {w : World} {v : Value} {pss : List (List (Value × Value))} (h : Prr B w v pss) : ∃ a c,v = .slice a pss.length c ∧ pss.length ≤ c ∧ pss.length ≤ 1048576 ∧ (pss ≠ [] → ∃ b off,a = some ⟨b,off,none⟩) := by
 obtain ⟨a,c,h1,h2,h3,h4⟩ := h;refine ⟨a,c,h1,h2,h3,fun hne => ?_⟩;rcases h4 with h4 | ⟨b,off,h5,h6,h7⟩
 ·exact absurd h4 hne
 ·exact ⟨b,off,h5⟩
theorem Prr.at {B : Nat} {w : World} {b off l c : Nat} {pss : List (List (Value × Value))} (h : Prr B w (.slice (some ⟨b,off,none⟩) l c) pss) {i : Nat} {ps : List (Value × Value)} (hi : pss[i]? = some ps) : ∃ u,w.cell? ⟨b,off + i,none⟩ = some u ∧ Prs B w u ps := by
 obtain ⟨a',c',h1,h2,h3,h4⟩ := h;rcases h4 with h4 | ⟨b',off',h5,h6,h7⟩
 ·subst h4;simp at hi
 ·simp only [Value.slice.injEq] at h1
  obtain ⟨rfl,-,-⟩ := h1;simp only [Option.some.injEq,Addr.mk.injEq,and_true] at h5;obtain ⟨rfl,rfl⟩ := h5;exact h7 i ps hi
def FilR (wx : World) (g n i : Nat) (P : Nat → Value → Prop) : Prop := ∃ vs,zqH wx g vs ∧ vs.length = n ∧ (∀ u ∈ vs,NoW u) ∧ ∀ (j : Nat) (u : Value),j < i → vs[j]? = some u → P j u
theorem FilR.start {w : World} {g n : Nat} (h : zqH w g (List.replicate n (.slice none 0 0))) (P : Nat → Value → Prop) : FilR w g n 0 P := ⟨_,h,by simp,(fun u hu => by rw [List.eq_of_mem_replicate hu];exact noS _ _ _),fun j u hj => by omega⟩
theorem FilR.put {w : World} {g n i : Nat} {P P' : Nat → Value → Prop} {x : Value} (h : FilR w g n i P) (hi : i < n) (hP : ∀ j u,j < i → P j u → P' j u) (hx : P' i x) (hn : NoW x) : FilR (w.setCell ⟨g,i,none⟩ x) g n (i + 1) P' := by
 obtain ⟨vs,h1,h2,hw,h3⟩ := h;refine ⟨vs.set i x,h1.set i x,by simpa using h2,(fun u hu => by
  rcases List.mem_or_eq_of_mem_set hu with q | rfl
  ·exact hw u q
  ·exact hn),fun j u hj hu => ?_⟩
 by_cases q : j = i
 ·subst q
  rw [List.getElem?_set_self (by omega),Option.some.injEq] at hu;subst hu;exact hx
 ·rw [List.getElem?_set_ne (by omega)] at hu
  exact hP j u (by omega) (h3 j u (by omega) hu)
theorem FilR.blk {w : World} {g n i : Nat} {P : Nat → Value → Prop} (h : FilR w g n i P) : g < w.heap.size := by
 obtain ⟨vs,h1,h2,hw,h3⟩ := h;exact h1.blk
theorem FilR.wk {w : World} {g n i j : Nat} {P : Nat → Value → Prop} (h : FilR w g n i P) (hj : j < n) (x : Value) : Wk w (w.setCell ⟨g,j,none⟩ x) := by
 obtain ⟨vs,h1,h2,hw,h3⟩ := h;exact h1.wk (List.getElem?_eq_getElem (by omega)) (hw _ (List.getElem_mem (l := vs) (n := j) (by omega))) x
theorem FilR.cells {w : World} {g n i j : Nat} {P : Nat → Value → Prop} (h : FilR w g n i P) (hj : j < n) : ∃ u,w.cell? ⟨g,j,none⟩ = some u ∧ w.frozen? ⟨g,j,none⟩ = false := by
 obtain ⟨vs,h1,h2,hw,h3⟩ := h;exact ⟨vs[j]'(by omega),h1.at (List.getElem?_eq_getElem (by omega)),h1.fz _⟩
theorem slice_mid (w : World) (b off n c lo hi : Nat) (h : lo ≤ hi) (h1 : hi ≤ c) (h2 : lo < c) : (Instr.slice 33 (.slice (some ⟨b,off,none⟩) n c) (some (.int .i64 (lo : Int))) (some (.int .i64 (hi : Int))) none).run Tryz.prog w = .ok (.slice (some ⟨b,off + 2 * lo,none⟩) (hi - lo) (c - lo)) w := by
 have i3 : (lo : Int) ≤ (hi : Int) := by omega
 have i1 : (0 : Int) ≤ (lo : Int) := by omega
 have i2 : (0 : Int) ≤ (hi : Int) := by omega
 have i5 : (hi : Int) ≤ (c : Int) := by omega
 have i4 : ¬ c = lo := by omega
 go_simp
theorem slice_zero (w : World) (a : Option Addr) (c : Nat) : (Instr.slice 33 (.slice a 0 c) (some (.int .i64 (0 : Int))) (some (.int .i64 (0 : Int))) none).run Tryz.prog w = .ok (.slice a 0 c) w := by
 have i5 : (0 : Int) ≤ (c : Int) := by omega
 rcases a with _ | ⟨b,off,sp⟩
 ·go_simp
 ·by_cases q : c = 0
  ·subst q;go_simp
  ·go_simp
def zoE {α : Type} (r c : Nat) (ps : List α) : List (List α) := (List.range r).map fun i => (ps.drop (i * c)).take c
abbrev matv (r c : Nat) (at_ : Value) : Value := .agg #[.int .i64 (r : Int),.int .i64 (c : Int),at_]
abbrev matc (r c : Nat) (at_ : Value) : List Value := [.int .i64 (r : Int),.int .i64 (c : Int),at_]
theorem cut_row {B : Nat} {w : World} {a : Option Addr} {n cap r c i : Nat} {ps : List (Value × Value)} (h : Prs B w (.slice a n cap) ps) (hl : ps.length = r * c) (hi : i < r) :
  ∃ a' cap',(∀ wx,(Instr.slice 33 (.slice a n cap) (some (.int .i64 ((i * c : Nat) : Int))) (some (.int .i64 (((i + 1) * c : Nat) : Int))) none).run Tryz.prog wx = .ok (.slice a' c cap') wx) ∧ Prs B w (.slice a' c cap') ((ps.drop (i * c)).take c) := by
 have h0 := h;obtain ⟨a',c',h1,h2,h3,-,h4⟩ := h;simp only [Value.slice.injEq] at h1;obtain ⟨rfl,rfl,rfl⟩ := h1
 by_cases hc : c = 0
 ·subst hc
  have e0 : ps = [] := List.eq_nil_of_length_eq_zero (by simpa using hl);subst e0;refine ⟨a,cap,fun wx => ?_,?_⟩
  ·simpa using slice_zero wx a cap
  ·simpa using h0
 ·rcases h4 with rfl | ⟨b,off,rfl,h5',h6,h7⟩
  ·rcases Nat.mul_eq_zero.1 (show r * c = 0 by simpa using hl.symm) with q | q <;> omega
  ·have e1 : (i + 1) * c ≤ r * c := Nat.mul_le_mul_right c hi
   have e2 : (i + 1) * c = i * c + c := by rw [Nat.add_mul,Nat.one_mul]
   refine ⟨some ⟨b,off + i * c * 2,none⟩,cap - i * c,fun wx => ?_,h0.piece (by omega)⟩;have := slice_mid wx b off ps.length cap (i * c) ((i + 1) * c) (by omega) (by omega) (by omega);rw [show (i + 1) * c - i * c = c by omega,Nat.mul_comm 2] at this;exact this
def zYI (w0 w : World) (B : Nat) (at_ : Value) (g r c : Nat) (ps : List (Value × Value)) (gk : Nat) (s : Value) (wx : World) : Prop :=
 ∃ i : Nat,s = .int .i64 (i : Int) ∧ i ≤ r ∧ gk = r - i ∧ FilR wx g r i (fun j u => Prs B w0 u ((ps.drop (j * c)).take c)) ∧ Cel wx w.heap.size 35 (matc r c at_) ∧ Below w.heap.size w wx
def zRI (w0 w : World) (B r c : Nat) (ps : List (Value × Value)) (e : Ending) (w' : World) : Prop := ∃ g,e = .returned (.slice (some ⟨g,0,none⟩) r r) ∧ w.heap.size ≤ g ∧ g < w'.heap.size ∧ (∀ i,i < r → ∃ ai ci,w'.cell? ⟨g,i,none⟩ = some (.slice ai c ci) ∧ Prs B w0 (.slice ai c ci) ((ps.drop (i * c)).take c)) ∧ Below w.heap.size w w'
theorem zwC {i c : Nat} (hi : i ≤ 64) (hc : c ≤ 64) : IntKind.i64.wrap ((i : Int) * (c : Int)) = ((i * c : Nat) : Int) := by
 have h : i * c ≤ 64 * 64 := Nat.mul_le_mul hi hc;rw [show (i : Int) * (c : Int) = ((i * c : Nat) : Int) by simp];rw [zmA] <;> omega
theorem rowsOf_at {w0 w : World} {B r c : Nat} {at_ : Value} {ps : List (Value × Value)} (ha : Prs B w0 at_ ps) (hl : ps.length = r * c) (hr : r ≤ 64) (hc : c ≤ 64) :
  Calls Tryz.prog 119 #[matv r c at_] w (zRI w0 w B r c ps) := by
 have A0 := hid ha;obtain ⟨a0,c0,rfl,hc0,hn0,-,hf0⟩ := ha.form;obtain ⟨n,hn⟩ : ∃ n,ps.length = n := ⟨_,rfl⟩
 have HL := hid hl;rw [hn] at A0 hc0 hn0 ⊢;clear ha hf0 hl hn;obtain ⟨W0,hW⟩ : ∃ W0,w.alloc (.cells #[.int .i64 (r : Int),.int .i64 (c : Int),.slice a0 n c0] 35) = W0 := ⟨_,rfl⟩
 obtain ⟨b0,sz0⟩ := alo1 w (.cells #[.int .i64 (r : Int),.int .i64 (c : Int),.slice a0 n c0] 35);rw [hW] at b0 sz0;have P1 : Hid (Cel W0 w.heap.size 35 (matc r c (.slice a0 n c0))) := by unfold Hid;rw [← hW];exact Cel.new w _ _
 have c1 : (w.alloc (.cells #[.int .i64 (r : Int),.int .i64 (c : Int),.slice a0 n c0] 35)).cell? ⟨w.heap.size,0,none⟩ = some (.int .i64 (r : Int)) := by rw [hW];exact P1.out.at (i := 0) rfl
 have G0 := hid b0;have EW := hid hW;have SZ := hid sz0;clear b0 hW sz0;go_enter Tryz.func119,Tryz.ntmps119;go_wp2_with (at_make;rw [EW.out];refine wpList_make_rows _ rfl _ _ rfl _ _ r r rfl rfl rfl rfl (Nat.le_refl _) (by omega) ?_)
 intro w1 hrow hb1 hsz1;have H0 : Hid (zYI w0 w B (.slice a0 n c0) W0.heap.size r c ps r (.int .i64 0) w1) := ⟨0,rfl,Nat.zero_le _,by omega,FilR.start hrow _,P1.out.step hb1,zAA G0.out hb1⟩
 have HGE : Hid (w.heap.size < W0.heap.size) := by unfold Hid;rw [SZ.out];omega
 clear hrow hb1 hsz1 P1 G0 EW SZ c1;generalize W0.heap.size = g at *;go_wp2_with fail
 go_loopg [10] r (fun gk s10 wx => zYI w0 w B (.slice a0 n c0) g r c ps gk s10 wx)
 case atStart => exact H0.out
 case round =>
  clear H0;obtain ⟨i,rfl,hin,hg,hfil,hcel,hG⟩ := hrel;have FI := hid hfil;have P1 := hid hcel;have G := hid hG;have HG := hid hg;clear hfil hcel hG hg
  by_cases hlt : i < r
  ·have hlt' : (i : Int) < (r : Int) := by omega
   obtain ⟨a',cap',hs,hp⟩ := cut_row (i := i) (c := c) A0.out HL.out hlt;have HP := hid hp;have hw := zVA (i := i) (by omega);have hm0 := zwC (i := i) (c := c) (by omega) hc;have hm1 := zwC (i := i + 1) (c := c) (by omega) hc;rw [show ((i + 1 : Nat) : Int) = (i : Int) + 1 by omega] at hm1;have HN1 : Hid (zYI w0 w B (.slice a0 n c0) g r c ps (r - (i + 1)) (.int .i64 ((i + 1 : Nat) : Int)) (wr.setCell ⟨g,i,none⟩ (.slice a' c cap'))) :=
    ⟨i + 1,rfl,by omega,rfl,FI.out.put hlt (fun j u _ q => q) HP.out (noS _ _ _),P1.out.ne (by have := HGE.out;omega),bset G.out (by have := HGE.out;omega)⟩
   clear hp HP;generalize i * c = lo at *;generalize (i + 1) * c = hi at *;have hm2 := hm0;have hm3 := hm1;rw [IntKind.wrap_i64] at hm2 hm3;have k1 := P1.out.at (i := 1) rfl;have k2 := P1.out.at (i := 2) rfl;obtain ⟨u0,e0,e1⟩ := FI.out.cells hlt;have HMM : Hid (r - (i + 1) < gk) := by unfold Hid;rw [HG.out];omega
   clear FI P1 G HG;go_wp2_with fail;go_roundg (r - (i + 1))
   case rel => exact HN1.out
   case measure => exact HMM.out
  ·have hlt' : ¬ (i : Int) < (r : Int) := by omega
   obtain rfl : i = r := by omega
   have FIN : Hid (zRI w0 w B i c ps (.returned (.slice (some ⟨g,0,none⟩) i i)) wr) := by
    refine ⟨g,rfl,Nat.le_of_lt HGE.out,FI.out.blk,fun j hj => ?_,G.out⟩;obtain ⟨vs,h1,h2,-,h3⟩ := FI.out;have hv : vs[j]? = some (vs[j]'(by omega)) := List.getElem?_eq_getElem (by omega);have hp := h3 j _ hj hv;obtain ⟨aj,cj,ej,-,-,-,-⟩ := hp.form;have el : ((ps.drop (j * c)).take c).length = c := by
     have h5 : (j + 1) * c ≤ i * c := Nat.mul_le_mul_right c hj;have h6 : (j + 1) * c = j * c + c := by rw [Nat.add_mul,Nat.one_mul]
     have h7 := HL.out
     simp
     omega
    rw [el] at ej;refine ⟨aj,cj,?_,?_⟩
    ·rw [h1.at hv,ej]
    ·rw [ej] at hp;exact hp
   clear FI P1 G HG;go_wp2;go_ret;exact FIN.out
end Go.Proofs.YtffkmeocmjohmaaGreat
