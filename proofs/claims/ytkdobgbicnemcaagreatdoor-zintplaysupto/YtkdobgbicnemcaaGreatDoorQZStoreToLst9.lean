/-
 QZStoreToLst9: ZStore, Cells6, Zlaw0, Lst9, joined.
-/
import Derived.Test.YtkdobgbicnemcaaGreatDoorQExact0ToZDiv
import Derived.Test.YtkdobgbicnemcaaGreatDoorQAlikeToShift
import Derived.Deep.Slices
import Derived.Deep.AppendLies

set_option maxRecDepth 100000
set_option maxHeartbeats 6400000
set_option linter.unusedVariables false
set_option linter.unusedSimpArgs false
namespace Go.Proofs.YtkdobgbicnemcaaGreatDoor
open Go.RowKit
def Zc (w : World) (v : Value) (z : Int) (k : Nat) : Prop :=
 ∃ n zs a c,v = .agg #[.bool n,.slice a zs.length c] ∧ Sl w.heap.size w (.slice a zs.length c) zs ∧ zHA zs ∧ (zs = [] → n = false) ∧ iv n zs = z ∧ zs.length ≤ k
theorem Zm.zc {B : Nat} {w : World} {v : Value} {z : Int} {k : Nat} (h : Zm B w v z k) : Zc w v z k := by
 obtain ⟨n,xs,a,c,h1,h2,h3,h4,h5,h6⟩ := h;exact ⟨n,xs,a,c,h1,h2.sl,h3,h4,h5,h6⟩
theorem Zc.zi {w : World} {v : Value} {z : Int} {k : Nat} (h : Zc w v z k) : Zi w v z k := by
 obtain ⟨n,xs,a,c,h1,h2,h3,h4,h5,h6⟩ := h;exact ⟨n,xs,a,c,h1,h2,h5,h6⟩
theorem Zc.now {w w' : World} {v : Value} {z : Int} {k : Nat} (h : Zc w v z k) (hb : Below w.heap.size w w') : Zc w' v z k := by
 obtain ⟨n,xs,a,c,h1,h2,h3,h4,h5,h6⟩ := h;exact ⟨n,xs,a,c,h1,h2.now hb,h3,h4,h5,h6⟩
theorem Duo.blk {w : World} {b : Nat} {x y : Value} (h : Duo w b x y) : b < w.heap.size := (Array.getElem?_eq_some_iff.1 (show w.heap[b]? = _ from h)).1
theorem Duo.step {w w' : World} {b : Nat} {x y : Value} (h : Duo w b x y) (hb : Below w.heap.size w w') : Duo w' b x y := h.below hb h.blk
def Wk (w w' : World) : Prop := w.heap.size ≤ w'.heap.size ∧ ∀ g off x,w.cell? ⟨g,off,none⟩ = some (.int .u64 x) → w'.cell? ⟨g,off,none⟩ = some (.int .u64 x)
theorem Wk.trans {w w' w'' : World} (h : Wk w w') (h' : Wk w' w'') : Wk w w'' := ⟨Nat.le_trans h.1 h'.1,fun g o x e => h'.2 g o x (h.2 g o x e)⟩
theorem Wk.set {w : World} {p : Addr} {u v : Value} (h : w.cell? p = some u) (hu : ∀ x,u ≠ .int .u64 x) : Wk w (w.setCell p v) := by
 refine ⟨by simp,fun g off x e => ?_⟩;rw [World.cell?_setCell_other _ _ _ _ (fun q => ?_)]
 ·exact e
 ·subst q
  rw [h] at e;exact hu x (by simpa using e)
theorem Duo.wk {w : World} {b : Nat} {n : Bool} {a : Option Addr} {l c : Nat} (h : Duo w b (.bool n) (.slice a l c)) (x y : Value) : Wk w ((w.setCell ⟨b,0,none⟩ x).setCell ⟨b,1,none⟩ y) := by
 refine (Wk.set h.c0 (by simp)).trans (Wk.set (u := .slice a l c) ?_ (by simp));rw [World.cell?_setCell_other _ _ _ _ (by simp)];exact h.c1
theorem Sl.wk {w w' : World} {v : Value} {xs : List Int} (h : Sl w.heap.size w v xs) (k : Wk w w') : Sl w'.heap.size w' v xs := by
 obtain ⟨h1,a,cap,h2,h3,h4,h5⟩ := h;refine ⟨h1,a,cap,h2,h3,h4,?_⟩;rcases h5 with e | ⟨b,off,e,hb,hc⟩
 ·exact .inl e
 ·exact .inr ⟨b,off,e,Nat.lt_of_lt_of_le hb k.1,fun j hj => k.2 _ _ _ (hc j hj)⟩
theorem Zi.wk {w w' : World} {v : Value} {z : Int} {k : Nat} (h : Zi w v z k) (b : Wk w w') : Zi w' v z k := by
 obtain ⟨n,xs,a,c,h1,h2,h3,h4⟩ := h;exact ⟨n,xs,a,c,h1,h2.wk b,h3,h4⟩
theorem Zc.wk {w w' : World} {v : Value} {z : Int} {k : Nat} (h : Zc w v z k) (b : Wk w w') : Zc w' v z k := by
 obtain ⟨n,xs,a,c,h1,h2,h3⟩ := h;exact ⟨n,xs,a,c,h1,h2.wk b,h3⟩
theorem Row.box {w : World} {g b i : Nat} {L : List Value} {x y u : Value} (h : Row w g L) (d : Duo w b x y) : Row (w.setCell ⟨b,i,none⟩ u) g L := by
 have hne : g ≠ b := fun e => by
  subst e;have := (show w.heap[g]? = _ from h).symm.trans (show w.heap[g]? = _ from d);simp at this
 exact (Below.heap_setCell w _ u g (fun e => hne (by simpa using e))).trans h
theorem Duo.set0 {w : World} {b : Nat} {x y : Value} (h : Duo w b x y) (u : Value) : Duo (w.setCell ⟨b,0,none⟩ u) b u y := by
 have h' : w.heap[b]? = some (.cells #[x,y] 26 (0,0)) := h;have hlt : b < w.heap.size := h.blk;have e : w.heap[b] = .cells #[x,y] 26 (0,0) := (Array.getElem?_eq_some_iff.1 h').2;unfold Duo World.setCell;simp [hlt,Array.getElem_modify,e]
theorem Mine.box {B : Nat} {w : World} {v : Value} {zs : List Int} (h : Mine B w v zs) {b : Nat} {x y : Value} (d : Duo w b x y) (u u' : Value) : Mine B ((w.setCell ⟨b,0,none⟩ u).setCell ⟨b,1,none⟩ u') v zs := by
 obtain ⟨hw,h | ⟨g,r,cap,h1,h2,h3,h4,h5,h6⟩⟩ := h
 ·exact ⟨hw,.inl h⟩
 ·exact ⟨hw,.inr ⟨g,r,cap,h1,h2,h3,h4,h5,(h6.box d).box (d.set0 u)⟩⟩
theorem Zm.box {B : Nat} {w : World} {v : Value} {z : Int} {k : Nat} (h : Zm B w v z k) {b : Nat} {x y : Value} (d : Duo w b x y) (u u' : Value) : Zm B ((w.setCell ⟨b,0,none⟩ u).setCell ⟨b,1,none⟩ u') v z k := by
 obtain ⟨n,xs,a,c,h1,h2,h3⟩ := h;exact ⟨n,xs,a,c,h1,h2.box d u u',h3⟩
theorem Duo.box {w : World} {b b' : Nat} {x y : Value} (h : Duo w b x y) (hne : b' ≠ b) (u u' : Value) : Duo ((w.setCell ⟨b',0,none⟩ u).setCell ⟨b',1,none⟩ u') b x y := (h.ne hne).ne hne
def Cel (w : World) (b : Nat) (T : TypeId) (L : List Value) : Prop := w.heap[b]? = some (.cells L.toArray T (0,0))
theorem Cel.blk {w : World} {b : Nat} {T : TypeId} {L : List Value} (h : Cel w b T L) : b < w.heap.size := (Array.getElem?_eq_some_iff.1 (show w.heap[b]? = _ from h)).1
theorem Cel.at {w : World} {b : Nat} {T : TypeId} {L : List Value} (h : Cel w b T L) {i : Nat} {v : Value} (e : L[i]? = some v) : w.cell? ⟨b,i,none⟩ = some v := by
 simp [World.cell?,show w.heap[b]? = _ from h,e]
theorem Cel.fz {w : World} {b : Nat} {T : TypeId} {L : List Value} (h : Cel w b T L) (i : Nat) : w.frozen? ⟨b,i,none⟩ = false := by simp [World.frozen?,show w.heap[b]? = _ from h]
theorem Cel.step {w w' : World} {b : Nat} {T : TypeId} {L : List Value} (h : Cel w b T L) (hb : Below w.heap.size w w') : Cel w' b T L := (hb.block b h.blk).trans h
theorem Cel.set {w : World} {b : Nat} {T : TypeId} {L : List Value} (h : Cel w b T L) (i : Nat) (v : Value) : Cel (w.setCell ⟨b,i,none⟩ v) b T (L.set i v) := by
 have h' : w.heap[b]? = some (.cells L.toArray T (0,0)) := h;have hlt : b < w.heap.size := h.blk;have e : w.heap[b] = .cells L.toArray T (0,0) := (Array.getElem?_eq_some_iff.1 h').2;unfold Cel World.setCell;simp [hlt,Array.getElem_modify,e]
theorem Cel.wk {w : World} {b : Nat} {T : TypeId} {L : List Value} (h : Cel w b T L) {i : Nat} {u : Value} (e : L[i]? = some u) (hu : ∀ x,u ≠ .int .u64 x) (v : Value) : Wk w (w.setCell ⟨b,i,none⟩ v) := Wk.set (h.at e) hu
def NoW (u : Value) : Prop := ∀ x,u ≠ .int .u64 x
theorem noB (n : Bool) : NoW (.bool n) := by intro x;simp
theorem noS (a : Option Addr) (l c : Nat) : NoW (.slice a l c) := by intro x;simp
theorem cmp_cases (a b : Int) : (a < b ∧ cmpI a b = -1) ∨ (a = b ∧ cmpI a b = 0) ∨ (b < a ∧ cmpI a b = 1) := by
 rcases Int.lt_trichotomy a b with h | h | h
 ·exact .inl ⟨h,zhA h⟩
 ·subst h;exact .inr (.inl ⟨rfl,cmpI_self a⟩)
 ·exact .inr (.inr ⟨h,ziA h⟩)
def Prs (B : Nat) (w : World) (v : Value) (ps : List (Value × Value)) : Prop :=
 ∃ a c,v = .slice a ps.length c ∧ ps.length ≤ c ∧ ps.length ≤ 1048576 ∧ (a = none → c = 0) ∧ (ps = [] ∨ ∃ b off,a = some ⟨b,off,none⟩ ∧ B ≤ b ∧ b < w.heap.size ∧ ∀ j p,ps[j]? = some p → w.cell? ⟨b,off + j * 2,none⟩ = some p.1 ∧ w.cell? ⟨b,off + j * 2 + 1,none⟩ = some p.2)
theorem Prs.now {B : Nat} {w w' : World} {v : Value} {ps : List (Value × Value)} (h : Prs B w v ps) (hb : Below w.heap.size w w') : Prs B w' v ps := by
 obtain ⟨a,c,h1,h2,h3,hx,h4⟩ := h;refine ⟨a,c,h1,h2,h3,hx,?_⟩;rcases h4 with h4 | ⟨b,off,h5,h5',h6,h7⟩
 ·exact .inl h4
 ·exact .inr ⟨b,off,h5,h5',Nat.lt_of_lt_of_le h6 hb.size,fun j p hp => ⟨(hb.cell (p := ⟨b,off + j * 2,none⟩) h6).trans (h7 j p hp).1,(hb.cell (p := ⟨b,off + j * 2 + 1,none⟩) h6).trans (h7 j p hp).2⟩⟩
theorem Prs.mono {B B' : Nat} {w : World} {v : Value} {ps : List (Value × Value)} (h : Prs B w v ps) (hB : B' ≤ B) : Prs B' w v ps := by
 obtain ⟨a,c,h1,h2,h3,hx,h4⟩ := h;refine ⟨a,c,h1,h2,h3,hx,?_⟩;rcases h4 with h4 | ⟨b,off,h5,h5',h6,h7⟩
 ·exact .inl h4
 ·exact .inr ⟨b,off,h5,by omega,h6,h7⟩
theorem Prs.off {B g i : Nat} {w : World} {v u : Value} {ps : List (Value × Value)} (h : Prs B w v ps) (hg : g < B) : Prs B (w.setCell ⟨g,i,none⟩ u) v ps := by
 obtain ⟨a,c,h1,h2,h3,hx,h4⟩ := h;refine ⟨a,c,h1,h2,h3,hx,?_⟩;rcases h4 with h4 | ⟨b,off,h5,h5',h6,h7⟩
 ·exact .inl h4
 ·refine .inr ⟨b,off,h5,h5',by simpa using h6,fun j p hp => ?_⟩
  have e : ∀ o,(w.setCell ⟨g,i,none⟩ u).cell? ⟨b,o,none⟩ = w.cell? ⟨b,o,none⟩ := fun o => World.cell?_setCell_other _ _ _ _ (by simp <;> omega)
  rw [e,e];exact h7 j p hp
theorem Prs.form {B : Nat} {w : World} {v : Value} {ps : List (Value × Value)} (h : Prs B w v ps) : ∃ a c,v = .slice a ps.length c ∧ ps.length ≤ c ∧ ps.length ≤ 1048576 ∧ (a = none → c = 0) ∧ (ps ≠ [] → ∃ b off,a = some ⟨b,off,none⟩ ∧ B ≤ b ∧ b < w.heap.size) := by
 obtain ⟨a,c,h1,h2,h3,hx,h4⟩ := h;refine ⟨a,c,h1,h2,h3,hx,fun hne => ?_⟩;rcases h4 with h4 | ⟨b,off,h5,h5',h6,h7⟩
 ·exact absurd h4 hne
 ·exact ⟨b,off,h5,h5',h6⟩
def Zis (w : World) (ps : List (Value × Value)) (zs : List Int) (k : Nat) : Prop := ps.length = zs.length ∧ ∀ (j : Nat) (p : Value × Value) (z : Int),ps[j]? = some p → zs[j]? = some z → Zi w (.agg #[p.1,p.2]) z k
def Zcs (w : World) (ps : List (Value × Value)) (zs : List Int) (k : Nat) : Prop := ps.length = zs.length ∧ ∀ (j : Nat) (p : Value × Value) (z : Int),ps[j]? = some p → zs[j]? = some z → Zc w (.agg #[p.1,p.2]) z k
theorem Zcs.zis {w : World} {ps : List (Value × Value)} {zs : List Int} {k : Nat} (h : Zcs w ps zs k) : Zis w ps zs k := ⟨h.1,fun j p z hp hz => (h.2 j p z hp hz).zi⟩
theorem Zis.now {w w' : World} {ps : List (Value × Value)} {zs : List Int} {k : Nat} (h : Zis w ps zs k) (hb : Below w.heap.size w w') : Zis w' ps zs k := ⟨h.1,fun j p z hp hz => (h.2 j p z hp hz).now hb⟩
theorem zlI {B : Nat} {w : World} {v : Value} {ps : List (Value × Value)} {zs : List Int} {k : Nat} (h : Prs B w v ps) (hz : Zis w ps zs k) : Zl w v zs k := by
 obtain ⟨a,c,h1,h2,h3,-,h4⟩ := h;obtain ⟨e,hz⟩ := hz;refine ⟨a,c,by rw [← e];exact h1,by omega,by omega,?_⟩;rcases h4 with h4 | ⟨b,off,h5,h5',h6,h7⟩
 ·subst h4
  exact .inl (List.eq_nil_of_length_eq_zero (by simpa using e.symm))
 ·refine .inr ⟨b,off,h5,h6,fun j hj => ?_⟩
  have hp : ps[j]? = some (ps[j]'(by omega)) := List.getElem?_eq_getElem (by omega);refine ⟨_,_,?_,?_,hz j _ _ hp (List.getElem?_eq_getElem hj)⟩
  ·rw [Nat.mul_comm];exact (h7 j _ hp).1
  ·rw [Nat.mul_comm];exact (h7 j _ hp).2
def flat : List (Value × Value) → List Value
 | [] => []
 | p :: r => p.1 :: p.2 :: flat r
theorem zpE : ∀ ps qs : List (Value × Value),flat (ps ++ qs) = flat ps ++ flat qs
 | [],qs => rfl
 | p :: r,qs => by simp only [flat,List.cons_append,zpE r qs]
theorem zGE : ∀ {ps : List (Value × Value)} {i : Nat} {p : Value × Value},ps[i]? = some p → (flat ps)[i * 2]? = some p.1 ∧ (flat ps)[i * 2 + 1]? = some p.2
 | [],i,p,h => by simp at h
 | q :: r,0,p,h => by
  simp only [List.getElem?_cons_zero,Option.some.injEq] at h;subst h;exact ⟨rfl,rfl⟩
 | q :: r,i + 1,p,h => by
  simp only [List.getElem?_cons_succ] at h;have := zGE h;rw [show (i + 1) * 2 = i * 2 + 1 + 1 by omega];simp only [flat,List.getElem?_cons_succ];exact this
theorem zPH : ∀ {ps : List (Value × Value)} {i : Nat} (p : Value × Value),i < ps.length → ((flat ps).set (i * 2) p.1).set (i * 2 + 1) p.2 = flat (ps.set i p)
 | [],i,p,h => by simp at h
 | q :: r,0,p,h => rfl
 | q :: r,i + 1,p,h => by
  rw [show (i + 1) * 2 = i * 2 + 1 + 1 by omega];simp only [flat,List.set_cons_succ];rw [zPH p (by simpa using h)]
def zaH : Value × Value := (.bool false,.slice none 0 0)
def IsI (p : Value × Value) : Prop := ∃ n a l c,p = (.bool n,.slice a l c)
theorem Zi.isI {w : World} {x y : Value} {z : Int} {k : Nat} (h : Zi w (.agg #[x,y]) z k) : IsI (x,y) := by
 obtain ⟨n,xs,a,c,e,_⟩ := h;simp only [Value.agg.injEq,Array.mk.injEq,List.cons.injEq,and_true] at e;obtain ⟨rfl,rfl⟩ := e;exact ⟨n,a,xs.length,c,rfl⟩
def Arr (w : World) (g : Nat) (ps : List (Value × Value)) : Prop := Cel w g 26 (flat ps) ∧ ∀ p ∈ ps,IsI p
theorem Arr.step {w w' : World} {g : Nat} {ps : List (Value × Value)} (h : Arr w g ps) (hb : Below w.heap.size w w') : Arr w' g ps := ⟨h.1.step hb,h.2⟩
theorem Arr.at {w : World} {g : Nat} {ps : List (Value × Value)} (h : Arr w g ps) {i : Nat} {p : Value × Value} (hi : ps[i]? = some p) : w.cell? ⟨g,i * 2,none⟩ = some p.1 ∧ w.cell? ⟨g,i * 2 + 1,none⟩ = some p.2 := ⟨h.1.at (zGE hi).1,h.1.at (zGE hi).2⟩
theorem Arr.put {w : World} {g : Nat} {ps : List (Value × Value)} (h : Arr w g ps) {i : Nat} (hi : i < ps.length) {x y : Value} (hp : IsI (x,y)) : Arr ((w.setCell ⟨g,i * 2,none⟩ x).setCell ⟨g,i * 2 + 1,none⟩ y) g (ps.set i (x,y)) := by
 refine ⟨?_,fun p hp' => ?_⟩
 ·rw [← zPH (x,y) hi]
  exact (h.1.set _ _).set _ _
 ·rcases List.mem_or_eq_of_mem_set hp' with q | rfl
  ·exact h.2 p q
  ·exact hp
theorem Arr.wk {w : World} {g : Nat} {ps : List (Value × Value)} (h : Arr w g ps) {i : Nat} (hi : i < ps.length) (x y : Value) : Wk w ((w.setCell ⟨g,i * 2,none⟩ x).setCell ⟨g,i * 2 + 1,none⟩ y) := by
 have e := zGE (List.getElem?_eq_getElem hi);obtain ⟨n,a,l,c,q⟩ := h.2 _ (List.getElem_mem hi);rw [q] at e;refine (h.1.wk e.1 (noB n) x).trans ((h.1.set _ _).wk (u := .slice a l c) ?_ (noS a l c) y);rw [List.getElem?_set_ne (by omega)];exact e.2
theorem Arr.prs {w : World} {g : Nat} {ps : List (Value × Value)} (h : Arr w g ps) {B : Nat} (hB : B ≤ g) (hl : ps.length ≤ 1048576) {cap : Nat} (hc : ps.length ≤ cap) : Prs B w (.slice (some ⟨g,0,none⟩) ps.length cap) ps :=
 ⟨_,_,rfl,hc,hl,(fun q => by cases q),.inr ⟨g,0,rfl,hB,h.1.blk,fun j p hp => by rw [Nat.zero_add];exact h.at hp⟩⟩
theorem Tryz.infoZ9 : (Tryz.prog.info? 26).map (fun i => (i.zero,i.size,i.bytes)) = some (some (.agg #[.bool false,.slice none 0 0]),2,32) := by kernel_rfl
theorem zQG : ∀ m : Nat,flat (List.replicate m zaH) = (List.range (m * 2)).map (fun i => if i % 2 = 0 then Value.bool false else Value.slice none 0 0)
 | 0 => rfl
 | m + 1 => by
  rw [List.replicate_succ',zpE,zQG m,show (m + 1) * 2 = m * 2 + 1 + 1 by omega,List.range_succ,List.range_succ];simp [flat,zaH]
theorem madeCells_pairs9 (m : Nat) : madeCells (Value.agg #[.bool false,.slice none 0 0]).cells (m * 2) = (flat (List.replicate m zaH)).toArray := by
 rw [zQG]
 apply Array.ext
 ·simp [size_madeCells,Value.cells]
 ·intro i h1 h2
  have : i % 2 = 0 ∨ i % 2 = 1 := by omega
  rcases this with q | q <;> simp [madeCells,Value.cells,q]
theorem zpB (w : World) {ops : Array Oper} {rest : List Oper} {o : Oper} {a : Act} {Q : Exit → Act → World → Prop}
  (hg : o.guard = none) (l c : Operand) (hop : o.op = Op.makeSlice 27 l c)
  (L C : Int) (n m : Nat) (hl : a.eval l = .int .i64 L) (hc : a.eval c = .int .i64 C) (hL : L = (n : Int)) (hC : C = (m : Int)) (hnm : n ≤ m) (hm : m ≤ 2000000)
  (hK : ∀ w',Arr w' w.heap.size (List.replicate m zaH) → Below w.heap.size w w' → Hid (w'.heap.size = w.heap.size + 1) → wpList Tryz.prog ops Q rest (a.put o.dst (.slice (some ⟨w.heap.size,0,none⟩) n m)) w') :
  wpList Tryz.prog ops Q (o :: rest) a w := by
 refine wpList_plain hg fun K hK' => ?_
 obtain ⟨i,hi,hz,hs,hb⟩ := info_parts Tryz.infoZ9;have hrun := run_make (P := Tryz.prog) w 27 26 i (.agg #[.bool false,.slice none 0 0]) Tryz.underlying27 hi hz .i64 .i64 n m (by omega) (by omega) (by rw [hb];omega) (by omega);subst hL;subst hC;rw [hs,Int.toNat_natCast,Int.toNat_natCast] at hrun;rw [madeCells_pairs9] at hrun;unfold Oper.wp;simp [execOp,hop,hl,hc,hrun,Result.andThen];refine hK' _ _ (hK _ ⟨?_,fun p hp => ?_⟩ ((Below.refl _ _).alloc (Nat.le_refl _) _) ?_)
 ·unfold Cel;exact heap_alloc_new w _
 ·rw [List.eq_of_mem_replicate hp];exact ⟨false,none,0,0,rfl⟩
 ·unfold Hid;simp
theorem alo1 (w : World) (o1 : Obj) : Below w.heap.size w (w.alloc o1) ∧ (w.alloc o1).heap.size = w.heap.size + 1 := ⟨(Below.refl _ _).alloc (Nat.le_refl _) _,by simp⟩
theorem zlG {i : Nat} (h : i ≤ 1048576) : IntKind.i64.wrap ((i : Int) + 1) = ((i + 1 : Nat) : Int) := by rw [zYA] <;> omega
end Go.Proofs.YtkdobgbicnemcaaGreatDoor
