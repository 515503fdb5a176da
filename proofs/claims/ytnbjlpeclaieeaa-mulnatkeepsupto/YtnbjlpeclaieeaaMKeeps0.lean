/-
  MKeeps0: what the walk of MulnatKeeps carries from call to call.
-/
import Derived.Test.YtnbjlpeclaieeaaTurnToGrow
import Derived.Test.YtnbjlpeclaieeaaBookWord
import Derived.Test.YtnbjlpeclaieeaaRoomsLToRoomsOp
import Derived.Test.YtnbjlpeclaieeaaCopied
import Derived.Test.YtnbjlpeclaieeaaWakeToCalls
import Derived.Test.YtnbjlpeclaieeaaApart
namespace Go.Proofs.Ytnbjlpeclaieeaa
open Go.RowKit
set_option linter.unusedVariables false

/-- The two boxes: the step that came in, and the step in its rooms. -/
structure Kb (w : World) (d : OpD) (bx : Nat) (xc : List Value) (wr : World) : Prop where
  be : Below w.heap.size w wr
  ob : wr.heap[w.heap.size]? = some (opBox d.kind d.va d.vb d.vc d.n d.vl)
  xb : wr.heap[bx]? = some (.cells xc.toArray 25 (0, 0))
  lt : w.heap.size < bx
theorem Kb.blt {w wr : World} {d : OpD} {bx : Nat} {xc : List Value} (h : Kb w d bx xc wr) : bx < wr.heap.size := (Array.getElem?_eq_some_iff.1 h.xb).1
theorem Kb.step {w wr w' : World} {d : OpD} {bx : Nat} {xc : List Value} (h : Kb w d bx xc wr) (k : Below wr.heap.size wr w') : Kb w d bx xc w' :=
  ⟨below_step h.be k, (k.block _ (Nat.lt_trans h.lt h.blt)).trans h.ob, (k.block _ h.blt).trans h.xb, h.lt⟩
theorem Kb.setX {w wr : World} {d : OpD} {bx : Nat} {xc : List Value} (h : Kb w d bx xc wr) (j : Nat) (u : Value) : Kb w d bx (xc.set j u) (wr.setCell ⟨bx, j, none⟩ u) := by
  have hl := h.lt
  refine ⟨h.be.setCell (p := ⟨bx, j, none⟩) (Nat.le_of_lt hl) u, ?_, ?_, hl⟩
  · rw [heap_setCell_other wr _ _ _ (by show w.heap.size ≠ bx; omega)]; exact h.ob
  · have := h.xb
    simp [World.setCell, Array.getElem?_modify, this]
theorem Kb.setOther {w wr : World} {d : OpD} {bx g j : Nat} {u : Value} {xc : List Value} (h : Kb w d bx xc wr) (hg : bx < g) : Kb w d bx xc (wr.setCell ⟨g, j, none⟩ u) := by
  have hl := h.lt
  refine ⟨h.be.setCell (p := ⟨g, j, none⟩) (by show w.heap.size ≤ g; omega) u, ?_, ?_, hl⟩
  · rw [heap_setCell_other wr _ _ _ (by show w.heap.size ≠ g; omega)]; exact h.ob
  · rw [heap_setCell_other wr _ _ _ (by show bx ≠ g; omega)]; exact h.xb
theorem Kb.touch {w wr w' : World} {d : OpD} {bx : Nat} {xc : List Value} {S : Nat → Prop} (h : Kb w d bx xc wr) (k : Touch S wr w') (hS : ∀ g, S g → bx < g) : Kb w d bx xc w' := by
  have hl := h.lt
  have hb := h.blt
  have no : ∀ g, g ≤ bx → ¬ S g := fun g hg q => by have := hS g q; omega
  exact ⟨⟨k.os.trans h.be.os, k.tape.trans h.be.tape, k.output.trans h.be.output, Nat.le_trans h.be.size k.size, fun j hj => (k.block j (Nat.lt_of_lt_of_le hj h.be.size) (no j (by omega))).trans (h.be.block j hj)⟩,
    (k.block _ (by omega) (no _ (by omega))).trans h.ob, (k.block _ hb (no _ (by omega))).trans h.xb, hl⟩
theorem Kb.oc {w wr : World} {d : OpD} {bx : Nat} {xc : List Value} (h : Kb w d bx xc wr) (j : Nat) : wr.cell? ⟨w.heap.size, j, none⟩ = (#[.int .i64 d.kind, d.va, d.vb, d.vc, .int .i64 d.n, d.vl] : Array Value)[j]? := by
  have := h.ob
  simp [World.cell?, this]
theorem Kb.xc {w wr : World} {d : OpD} {bx : Nat} {xc : List Value} (h : Kb w d bx xc wr) (j : Nat) : wr.cell? ⟨bx, j, none⟩ = xc[j]? := by
  have := h.xb
  simp [World.cell?, this]
theorem Kb.xf {w wr : World} {d : OpD} {bx : Nat} {xc : List Value} (h : Kb w d bx xc wr) (j : Nat) : wr.frozen? ⟨bx, j, none⟩ = false := by
  have := h.xb
  simp [World.frozen?, this]
/-- The second box, laid. -/
theorem kb_alloc {w wr : World} {d : OpD} (h : Bx w (opBox d.kind d.va d.vb d.vc d.n d.vl) wr) (xc : List Value) : Kb w d wr.heap.size xc (wr.alloc (.cells xc.toArray 25)) :=
  ⟨h.1.alloc h.1.size _, (Below.heap_alloc wr _ _ h.lt).trans h.2, heap_alloc_new wr _, h.lt⟩

/-- A list of a call's own, whose block lies from B on and below C. -/
def Pm (B C : Nat) (w : World) (v : Value) (zs : List Int) : Prop := Mine B w v zs ∧ ∀ g, v.ownBlock = some g → B ≤ g ∧ g < C
theorem Mine.blk {B : Nat} {w : World} {v : Value} {zs : List Int} (h : Mine B w v zs) {g : Nat} (hg : v.ownBlock = some g) : B ≤ g ∧ g < w.heap.size := by
  obtain ⟨_, ⟨h1, h2⟩ | ⟨g', r, cap, h1, h2, h3, h4, h5, h6⟩⟩ := h
  · subst h1; cases hg
  · subst h5
    obtain rfl : g' = g := by simpa [Value.ownBlock] using hg
    exact ⟨h1, h6.lt⟩
theorem Pm.of {B C : Nat} {w : World} {v : Value} {zs : List Int} (h : Mine B w v zs) (hC : w.heap.size ≤ C) : Pm B C w v zs := ⟨h, fun g hg => ⟨(h.blk hg).1, Nat.lt_of_lt_of_le (h.blk hg).2 hC⟩⟩
theorem Pm.keep {B C : Nat} {w w' : World} {v : Value} {zs : List Int} (h : Pm B C w v zs) (hk : ∀ g, v.ownBlock = some g → w'.heap[g]? = w.heap[g]?) : Pm B C w' v zs := by
  obtain ⟨⟨hw, h1 | ⟨g, r, cap, h1, h2, h3, h4, h5, h6⟩⟩, hg⟩ := h
  · exact ⟨⟨hw, .inl h1⟩, hg⟩
  · exact ⟨⟨hw, .inr ⟨g, r, cap, h1, h2, h3, h4, h5, (hk g (by rw [h5]; rfl)).trans h6⟩⟩, hg⟩
theorem Pm.step {B C : Nat} {w w' : World} {v : Value} {zs : List Int} (h : Pm B C w v zs) (hb : Below w.heap.size w w') : Pm B C w' v zs := h.keep fun g hg => hb.block g (h.1.blk hg).2
theorem Pm.touch {B C : Nat} {w w' : World} {v : Value} {zs : List Int} {S : Nat → Prop} (h : Pm B C w v zs) (ht : Touch S w w') (hS : ∀ g, S g → g < B ∨ C ≤ g) : Pm B C w' v zs :=
  h.keep fun g hg => ht.block g (h.1.blk hg).2 (fun q => by have := hS g q; have := h.2 g hg; omega)
theorem Pm.sl {B C : Nat} {w : World} {v : Value} {zs : List Int} (h : Pm B C w v zs) : Sl w.heap.size w v zs := h.1.sl

/-- The lists of a list, turned as far as k. -/
def turnLs (Xs : List (List Int)) (k : Nat) : List (List Int) := (Xs.take k).map turnL ++ Xs.drop k
theorem turnLs_len (Xs : List (List Int)) (k : Nat) : (turnLs Xs k).length = Xs.length := by simp [turnLs]; omega
theorem turnLs_zero (Xs : List (List Int)) : turnLs Xs 0 = Xs := by simp [turnLs]
theorem turnLs_get {Xs : List (List Int)} {k : Nat} (h : k < (turnLs Xs k).length) (h' : k < Xs.length) : (turnLs Xs k)[k] = Xs[k] := by
  have hl : ((Xs.take k).map turnL).length = k := by simp; omega
  have h2 : ((Xs.take k).map turnL ++ Xs.drop k)[k]? = some Xs[k] := by
    rw [List.getElem?_append_right (by omega), hl, Nat.sub_self]
    simp [h']
  exact (List.getElem?_eq_some_iff.1 h2).2
theorem turnLs_set {Xs : List (List Int)} {k : Nat} (h : k < Xs.length) : (turnLs Xs k).set k (turnL Xs[k]) = turnLs Xs (k + 1) := by
  unfold turnLs
  have hl : ((Xs.take k).map turnL).length = k := by simp; omega
  have e : Xs.drop k = Xs[k] :: Xs.drop (k + 1) := List.drop_eq_getElem_cons h
  rw [List.set_append_right _ _ (by omega), hl, e, Nat.sub_self, List.set_cons_zero, List.take_succ_eq_append_getElem h, List.map_append, List.append_assoc]
  rfl
theorem turnLs_all (Xs : List (List Int)) : turnLs Xs Xs.length = Xs.map turnL := by simp [turnLs]
theorem tot_turn (Xs : List (List Int)) : tot (Xs.map turnL) = tot Xs := by
  induction Xs with
  | nil => rfl
  | cons x t ih => simp [tot, turnL_len, ih]
theorem turnLs_wf {Xs : List (List Int)} (h : ∀ x ∈ Xs, WF x) (k : Nat) : ∀ x ∈ turnLs Xs k, WF x := fun x hx => by
  unfold turnLs at hx
  rcases List.mem_append.1 hx with hx | hx
  · obtain ⟨y, _, rfl⟩ := List.mem_map.1 hx
    exact turnL_wf y
  · exact h x (List.mem_of_mem_drop hx)
theorem Rm.row {w : World} {g : Nat} {xs : List Int} (h : Rm w g xs) : Row w g (ws xs ++ ws (mrk xs.length)) := by rw [← ws_roomy]; exact h
theorem RoomsL.frozen2 {w : World} {g1 g2 k i : Nat} {Xs : List (List Int)} {R : Nat → Nat} {V1 V2 : List Value} (h : RoomsL w g1 g2 Xs R V1 V2 k) : w.frozen? ⟨g2, i, none⟩ = false := h.2.1.frozen i
theorem RoomsL.frozen1 {w : World} {g1 g2 k i : Nat} {Xs : List (List Int)} {R : Nat → Nat} {V1 V2 : List Value} (h : RoomsL w g1 g2 Xs R V1 V2 k) : w.frozen? ⟨g1, i, none⟩ = false := h.1.frozen i
/-- What a touched block above leaves. -/
theorem RoomsL.touch {w w' : World} {g1 g2 : Nat} {Xs : List (List Int)} {R : Nat → Nat} {V1 V2 : List Value} {S : Nat → Prop} (h : RoomsL w g1 g2 Xs R V1 V2 Xs.length) (ht : Touch S w w') (hS : ∀ g, S g → g < g1) : RoomsL w' g1 g2 Xs R V1 V2 Xs.length := by
  obtain ⟨h1, h2, h3, h4, h5, h6⟩ := h
  refine ⟨(ht.block g1 h1.lt (fun q => by have := hS _ q; omega)).trans h1, (ht.block g2 h2.lt (fun q => by have := hS _ q; omega)).trans h2, h3, h4, h5, fun i hi hk => ?_⟩
  obtain ⟨a, b, c, e, f⟩ := h6 i hi hk
  exact ⟨a, b, ht.row c (fun q => by have := hS _ q; omega), e, f⟩
theorem Bx.six {w wr : World} {d : OpD} {va vb vc vl : Value} (h : Bx w (opBox d.kind d.va d.vb d.vc d.n d.vl) wr) (ha : d.va = va) (hb : d.vb = vb) (hc : d.vc = vc) (hl : d.vl = vl) :
    wr.cell? ⟨w.heap.size, 0, none⟩ = some (.int .i64 d.kind) ∧ wr.cell? ⟨w.heap.size, 1, none⟩ = some va ∧ wr.cell? ⟨w.heap.size, 2, none⟩ = some vb ∧ wr.cell? ⟨w.heap.size, 3, none⟩ = some vc ∧ wr.cell? ⟨w.heap.size, 4, none⟩ = some (.int .i64 d.n) ∧ wr.cell? ⟨w.heap.size, 5, none⟩ = some vl := by
  subst ha hb hc hl
  exact ⟨h.cell 0, h.cell 1, h.cell 2, h.cell 3, h.cell 4, h.cell 5⟩
theorem Kb.bx {w wr : World} {d : OpD} {bx : Nat} {xc : List Value} (h : Kb w d bx xc wr) : Bx w (opBox d.kind d.va d.vb d.vc d.n d.vl) wr := ⟨h.be, h.ob⟩
theorem Kb.xsix {w wr : World} {d : OpD} {bx : Nat} {x0 x1 x2 x3 x4 x5 : Value} (h : Kb w d bx [x0, x1, x2, x3, x4, x5] wr) :
    wr.cell? ⟨bx, 0, none⟩ = some x0 ∧ wr.cell? ⟨bx, 1, none⟩ = some x1 ∧ wr.cell? ⟨bx, 2, none⟩ = some x2 ∧ wr.cell? ⟨bx, 3, none⟩ = some x3 ∧ wr.cell? ⟨bx, 4, none⟩ = some x4 ∧ wr.cell? ⟨bx, 5, none⟩ = some x5 :=
  ⟨h.xc 0, h.xc 1, h.xc 2, h.xc 3, h.xc 4, h.xc 5⟩
/-- The boxes, the three rooms and the answer that was wanted first. -/
structure Kr (w : World) (d : OpD) (bx : Nat) (xc : List Value) (ra rb rc : Nat) (xa ya za : List Int) (B0 : Nat) (vW : Value) (W : List Int) (wr : World) : Prop where
  kb : Kb w d bx xc wr
  ma : Rm wr ra xa
  mb : Rm wr rb ya
  mc : Rm wr rc za
  pw : Pm B0 bx wr vW W
  qa : bx < ra
  qb : ra < rb
  qc : rb < rc
theorem Kr.step {w wr w' : World} {d : OpD} {bx ra rb rc B0 : Nat} {xc : List Value} {xa ya za W : List Int} {vW : Value} (h : Kr w d bx xc ra rb rc xa ya za B0 vW W wr) (k : Below wr.heap.size wr w') : Kr w d bx xc ra rb rc xa ya za B0 vW W w' :=
  ⟨h.kb.step k, h.ma.step k, h.mb.step k, h.mc.step k, h.pw.step k, h.qa, h.qb, h.qc⟩
theorem Kr.touch {w wr w' : World} {d : OpD} {bx ra rb rc B0 : Nat} {xc : List Value} {xa ya za W : List Int} {vW : Value} {S : Nat → Prop} (h : Kr w d bx xc ra rb rc xa ya za B0 vW W wr) (k : Touch S wr w') (hS : ∀ g, S g → rc < g) : Kr w d bx xc ra rb rc xa ya za B0 vW W w' := by
  have qa := h.qa
  have qb := h.qb
  have qc := h.qc
  exact ⟨h.kb.touch k (fun g q => by have := hS g q; omega), k.row h.ma (fun q => by have := hS _ q; omega), k.row h.mb (fun q => by have := hS _ q; omega), k.row h.mc (fun q => by have := hS _ q; omega), h.pw.touch k (fun g q => by have := hS g q; omega), qa, qb, qc⟩
theorem Kr.set {w wr : World} {d : OpD} {bx ra rb rc B0 g j : Nat} {xc : List Value} {xa ya za W : List Int} {vW u : Value} (h : Kr w d bx xc ra rb rc xa ya za B0 vW W wr) (hg : rc < g) : Kr w d bx xc ra rb rc xa ya za B0 vW W (wr.setCell ⟨g, j, none⟩ u) :=
  h.touch (touch_set wr g j u) (fun q e => by change q = g at e; omega)
theorem Kr.setX {w wr : World} {d : OpD} {bx ra rb rc B0 : Nat} {xc : List Value} {xa ya za W : List Int} {vW : Value} (h : Kr w d bx xc ra rb rc xa ya za B0 vW W wr) (j : Nat) (u : Value) : Kr w d bx (xc.set j u) ra rb rc xa ya za B0 vW W (wr.setCell ⟨bx, j, none⟩ u) := by
  have k := touch_set wr bx j u
  have qa := h.qa
  have qb := h.qb
  have qc := h.qc
  exact ⟨h.kb.setX j u, k.row h.ma (by omega), k.row h.mb (by omega), k.row h.mc (by omega), h.pw.touch k (fun g q => by change g = bx at q; omega), qa, qb, qc⟩
theorem Kr.turnA {w wr w' : World} {d : OpD} {bx ra rb rc B0 : Nat} {xc : List Value} {xa ya za T W : List Int} {vW : Value} (h : Kr w d bx xc ra rb rc xa ya za B0 vW W wr) (k : Touch (· = ra) wr w') (hT : Rm w' ra T) : Kr w d bx xc ra rb rc T ya za B0 vW W w' := by
  have qa := h.qa
  have qb := h.qb
  have qc := h.qc
  exact ⟨h.kb.touch k (fun g q => by change g = ra at q; omega), hT, k.row h.mb (by omega), k.row h.mc (by omega), h.pw.touch k (fun g q => by change g = ra at q; omega), qa, qb, qc⟩
theorem Kr.turnB {w wr w' : World} {d : OpD} {bx ra rb rc B0 : Nat} {xc : List Value} {xa ya za T W : List Int} {vW : Value} (h : Kr w d bx xc ra rb rc xa ya za B0 vW W wr) (k : Touch (· = rb) wr w') (hT : Rm w' rb T) : Kr w d bx xc ra rb rc xa T za B0 vW W w' := by
  have qa := h.qa
  have qb := h.qb
  have qc := h.qc
  exact ⟨h.kb.touch k (fun g q => by change g = rb at q; omega), k.row h.ma (by omega), hT, k.row h.mc (by omega), h.pw.touch k (fun g q => by change g = rb at q; omega), qa, qb, qc⟩
theorem Kr.turnC {w wr w' : World} {d : OpD} {bx ra rb rc B0 : Nat} {xc : List Value} {xa ya za T W : List Int} {vW : Value} (h : Kr w d bx xc ra rb rc xa ya za B0 vW W wr) (k : Touch (· = rc) wr w') (hT : Rm w' rc T) : Kr w d bx xc ra rb rc xa ya T B0 vW W w' := by
  have qa := h.qa
  have qb := h.qb
  have qc := h.qc
  exact ⟨h.kb.touch k (fun g q => by change g = rc at q; omega), k.row h.ma (by omega), k.row h.mb (by omega), hT, h.pw.touch k (fun g q => by change g = rc at q; omega), qa, qb, qc⟩
/-- The three heads, written into the second box. -/
theorem kr_start {w wr W' : World} {d : OpD} {bx ra rb rc B0 : Nat} {x0 x1 x2 x3 x4 x5 y1 y2 y3 : Value} {xa ya za W : List Int} {vW : Value} (h : Kb w d bx [x0, x1, x2, x3, x4, x5] wr) (ma : Rm wr ra xa) (mb : Rm wr rb ya) (mc : Rm wr rc za) (pw : Pm B0 bx wr vW W) (qa : bx < ra) (qb : ra < rb) (qc : rb < rc)
    (hW : W' = ((wr.setCell ⟨bx, 1, none⟩ y1).setCell ⟨bx, 2, none⟩ y2).setCell ⟨bx, 3, none⟩ y3) : Kr w d bx [x0, y1, y2, y3, x4, x5] ra rb rc xa ya za B0 vW W W' := by
  subst hW
  exact (((Kr.mk h ma mb mc pw qa qb qc).setX 1 y1).setX 2 y2).setX 3 y3
theorem RoomsL.set2 {w : World} {g1 g2 k : Nat} {Xs : List (List Int)} {R : Nat → Nat} {V1 V2 : List Value} (h : RoomsL w g1 g2 Xs R V1 V2 k) {i : Nat} (hi : i < Xs.length + 2) : ∃ u, w.cell? ⟨g2, i, none⟩ = some u := ⟨_, h.2.1.cell (by rw [h.2.2.2.1]; exact hi)⟩
theorem RoomsL.set1 {w : World} {g1 g2 k : Nat} {Xs : List (List Int)} {R : Nat → Nat} {V1 V2 : List Value} (h : RoomsL w g1 g2 Xs R V1 V2 k) {i : Nat} (hi : i < Xs.length) : ∃ u, w.cell? ⟨g1, i, none⟩ = some u := ⟨_, h.1.cell (by rw [h.2.2.1]; exact hi)⟩
theorem RoomsL.after1 {w : World} {g1 g2 k i : Nat} {Xs : List (List Int)} {R : Nat → Nat} {V1 V2 : List Value} {v : Value} (h : RoomsL w g1 g2 Xs R V1 V2 k) (hi : i < Xs.length) :
    (w.setCell ⟨g1, i, none⟩ v).cell? ⟨g1, i, none⟩ = some v ∧ ∃ u, (w.setCell ⟨g1, i, none⟩ v).cell? ⟨g2, i, none⟩ = some u ∧ (w.setCell ⟨g1, i, none⟩ v).frozen? ⟨g2, i, none⟩ = false := by
  obtain ⟨h1, h2, h3, h4, h5, h6⟩ := h
  have hl : i < (V1.set i v).length := by rw [List.length_set, h3]; exact hi
  have q := (h1.set i v).cell hl
  rw [List.getElem_set_self] at q
  have r : RowS (w.setCell ⟨g1, i, none⟩ v) g2 V2 := h2.setOther (by omega)
  exact ⟨q, _, r.cell (by omega), r.frozen _⟩
theorem RoomsL.setLow {w : World} {g1 g2 b j : Nat} {Xs : List (List Int)} {R : Nat → Nat} {V1 V2 : List Value} {u : Value} (h : RoomsL w g1 g2 Xs R V1 V2 Xs.length) (hb : b < g1) : RoomsL (w.setCell ⟨b, j, none⟩ u) g1 g2 Xs R V1 V2 Xs.length :=
  h.touch (touch_set w b j u) (fun g q => by change g = b at q; omega)
/-- The two lists behind the heads. -/
def Tl (wr : World) (g2 n h1 h2 : Nat) : Prop :=
  wr.cell? ⟨g2, n, none⟩ = some (.slice (some ⟨h1, 0, none⟩) 1 1) ∧ wr.cell? ⟨g2, n + 1, none⟩ = some (.slice (some ⟨h2, 0, none⟩) 1 1) ∧ Row wr h1 (ws [77]) ∧ Row wr h2 (ws [78]) ∧ g2 < wr.heap.size
theorem Tl.step {wr w' : World} {g2 n h1 h2 : Nat} (h : Tl wr g2 n h1 h2) (k : Below wr.heap.size wr w') : Tl w' g2 n h1 h2 :=
  ⟨(k.cell (p := ⟨g2, n, none⟩) h.2.2.2.2).trans h.1, (k.cell (p := ⟨g2, n + 1, none⟩) h.2.2.2.2).trans h.2.1, h.2.2.1.step k, h.2.2.2.1.step k, Nat.lt_of_lt_of_le h.2.2.2.2 k.size⟩
theorem last_two {w wr E : World} {d : OpD} {bx ra rb rc B0 g1 g2 nl : Nat} {x0 x1 x2 x3 x4 x5 y5 : Value} {xa ya za W : List Int} {vW : Value} {Xs : List (List Int)} {R : Nat → Nat} {V1 V2 : List Value}
    (K : Kr w d bx [x0, x1, x2, x3, x4, x5] ra rb rc xa ya za B0 vW W wr) (L : RoomsL wr g1 g2 Xs R V1 V2 Xs.length) (hn : Xs.length = nl) (qg : rc < g1)
    (hE : E = ((((wr.setCell ⟨g2, nl, none⟩ (.slice (some ⟨wr.heap.size, 0, none⟩) 1 1)).setCell ⟨g2, nl + 1, none⟩ (.slice (some ⟨wr.heap.size + 1, 0, none⟩) 1 1)).setCell ⟨bx, 5, none⟩ y5).alloc (.cells #[.int .u64 77] 32)).alloc (.cells #[.int .u64 78] 32)) :
    Kr w d bx [x0, x1, x2, x3, x4, y5] ra rb rc xa ya za B0 vW W E ∧ (∃ V2', RoomsL E g1 g2 Xs R V1 V2' Xs.length) ∧ Tl E g2 nl wr.heap.size (wr.heap.size + 1) := by
  subst hn
  have qa := K.qa
  have qb := K.qb
  have qc := K.qc
  have g12 := L.2.2.2.2.1
  have hg2 := L.2.1.lt
  have K0 := ((K.set (g := g2) (j := Xs.length) (u := .slice (some ⟨wr.heap.size, 0, none⟩) 1 1) (by omega)).set (g := g2) (j := Xs.length + 1) (u := .slice (some ⟨wr.heap.size + 1, 0, none⟩) 1 1) (by omega)).setX 5 y5
  have L0 := ((L.last (j := Xs.length) (u := .slice (some ⟨wr.heap.size, 0, none⟩) 1 1) (Nat.le_refl _)).last (j := Xs.length + 1) (u := .slice (some ⟨wr.heap.size + 1, 0, none⟩) 1 1) (by omega)).setLow (b := bx) (j := 5) (u := y5) (by omega)
  obtain ⟨E0, e0⟩ : ∃ E0, E0 = ((wr.setCell ⟨g2, Xs.length, none⟩ (.slice (some ⟨wr.heap.size, 0, none⟩) 1 1)).setCell ⟨g2, Xs.length + 1, none⟩ (.slice (some ⟨wr.heap.size + 1, 0, none⟩) 1 1)).setCell ⟨bx, 5, none⟩ y5 := ⟨_, rfl⟩
  have hs0 : E0.heap.size = wr.heap.size := by rw [e0]; simp
  rw [← e0] at K0 L0 hE
  clear e0
  have a1 : Below E0.heap.size E0 (E0.alloc (.cells #[.int .u64 77] 32)) := (Below.refl _ _).alloc (Nat.le_refl _) _
  have R1 : Row (E0.alloc (.cells #[.int .u64 77] 32)) wr.heap.size (ws [77]) := by rw [← hs0]; exact heap_alloc_new E0 _
  have K1 := K0.step a1
  have L1 := L0.now a1
  obtain ⟨E1, e1⟩ : ∃ E1, E1 = E0.alloc (.cells #[.int .u64 77] 32) := ⟨_, rfl⟩
  have hs1 : E1.heap.size = wr.heap.size + 1 := by rw [e1]; simp [hs0]
  rw [← e1] at K1 L1 R1 hE
  clear e1 a1
  have a2 : Below E1.heap.size E1 (E1.alloc (.cells #[.int .u64 78] 32)) := (Below.refl _ _).alloc (Nat.le_refl _) _
  have R2 : Row (E1.alloc (.cells #[.int .u64 78] 32)) (wr.heap.size + 1) (ws [78]) := by rw [← hs1]; exact heap_alloc_new E1 _
  have K2 := K1.step a2
  have L2 := L1.now a2
  have R1' := R1.step a2
  rw [← hE] at K2 L2 R1' R2
  have hl := L.2.2.2.1
  refine ⟨K2, ⟨_, L2⟩, ⟨?_, ?_, R1', R2, L2.2.1.lt⟩⟩
  · rw [L2.2.1.cell (by simp; omega)]
    simp
  · rw [L2.2.1.cell (by simp; omega)]
    simp
/-- A step in its rooms, with whatever words in them. -/
theorem op_rooms {w0 wr : World} {d : OpD} {ra rb rc g1 g2 na nb nc nl : Nat} {xa ya za : List Int} {Ys : List (List Int)} {R : Nat → Nat} {V1 V2 : List Value} (h : OpOk w0 d) (ma : Rm wr ra xa) (mb : Rm wr rb ya) (mc : Rm wr rc za) (hL : RoomsL wr g1 g2 Ys R V1 V2 Ys.length)
    (wa : WF xa) (wb : WF ya) (wc : WF za) (wl : ∀ x ∈ Ys, WF x) (la : xa.length = na) (lb : ya.length = nb) (lc : za.length = nc) (ll : Ys.length = nl) (ka : na ≤ 1048576) (kb : nb ≤ 1048576) (kc : nc ≤ 1048576) (kl : nl ≤ 1048576) (kt : tot Ys ≤ 1048576) :
    OpOk wr ⟨d.kind, .slice (some ⟨ra, 0, none⟩) na (na + 80), xa, .slice (some ⟨rb, 0, none⟩) nb (nb + 80), ya, .slice (some ⟨rc, 0, none⟩) nc (nc + 80), za, d.n, .slice (some ⟨g2, 0, none⟩) nl (nl + 2), Ys⟩ := by
  subst la lb lc ll
  exact ⟨ma.part wa rfl (by omega), .inr ⟨_, _, _, rfl⟩, ka, mb.part wb rfl (by omega), .inr ⟨_, _, _, rfl⟩, kb, mc.part wc rfl (by omega), .inr ⟨_, _, _, rfl⟩, kc, hL.ls wl kt kl, kl, kt, h.n0, h.n1⟩
theorem turn_room {w : World} {g n cap : Nat} {xs : List Int} (h : Rm w g xs) (hw : WF xs) (hn : xs.length = n) (hl : n ≤ 1048576) :
    Calls Try.prog 11 #[.slice (some ⟨g, 0, none⟩) n cap] w fun e w' => e = .returned (.tuple #[]) ∧ Rm w' g (turnL xs) ∧ Touch (· = g) w w' := by
  subst hn
  exact (turn_any h.row hw hl).mono fun e w' ⟨h1, h2, h3⟩ => ⟨h1, Rm.over (turnL_len xs) h2, h3⟩
theorem rooms_at {wr : World} {g1 g2 k : Nat} {Xs : List (List Int)} {R : Nat → Nat} {V1 V2 : List Value} (L : RoomsL wr g1 g2 (turnLs Xs k) R V1 V2 (turnLs Xs k).length) (hk : k < Xs.length) :
    wr.cell? ⟨g2, k, none⟩ = some (headV (R k) Xs[k].length) ∧ Rm wr (R k) Xs[k] ∧ g2 < R k := by
  have hk' : k < (turnLs Xs k).length := by rw [turnLs_len]; exact hk
  have c := L.cell2 hk'
  obtain ⟨_, _, r, q, _⟩ := L.2.2.2.2.2 k hk' hk'
  rw [turnLs_get hk' hk] at c r
  exact ⟨c, r, q⟩
theorem rooms_turn {wr w' : World} {g1 g2 k : Nat} {Xs : List (List Int)} {R : Nat → Nat} {V1 V2 : List Value} (L : RoomsL wr g1 g2 (turnLs Xs k) R V1 V2 (turnLs Xs k).length) (hk : k < Xs.length) (ht : Touch (· = R k) wr w') (hr : Rm w' (R k) (turnL Xs[k])) :
    RoomsL w' g1 g2 (turnLs Xs (k + 1)) R V1 V2 (turnLs Xs (k + 1)).length := by
  have hk' : k < (turnLs Xs k).length := by rw [turnLs_len]; exact hk
  have := L.turn hk' (T := turnL Xs[k]) (by rw [turnL_len, turnLs_get hk' hk]) ht hr
  rw [turnLs_set hk] at this
  exact this
theorem Rm.ow {w : World} {g n : Nat} {xs : List Int} (h : Rm w g xs) (hn : xs.length = n) (hl : n ≤ 2000000) : Ow w (.slice (some ⟨g, 0, none⟩) n (n + 80)) xs := by
  subst hn
  have l : (ws (mrk xs.length)).length = 80 := by simp [mrk, length_ws]
  have := h.row.ow (by rw [l]; omega)
  rw [l] at this
  exact this
/-- The book, laid. -/
theorem bw_new (w : World) : Bw w.heap.size (w.alloc (.cells #[.slice none 0 0, .slice none 0 0, .slice none 0 0] 39)) w.heap.size [] :=
  ⟨Nat.le_refl _, .slice none 0 0, heap_alloc_new w _, World.ownsRow_nil _ _ _ _⟩
/-- The lists of the book: three answers, three rooms, a room for each list. -/
def bookUs (v0 v1 v2 : Value) (ra rb rc na nb nc : Nat) (R : Nat → Nat) (N : Nat → Nat) (k : Nat) : List Value :=
  [v0, v1, v2, headV ra na, headV rb nb, headV rc nc] ++ (List.range k).map fun i => headV (R i) (N i)
theorem bookUs_succ (v0 v1 v2 : Value) (ra rb rc na nb nc : Nat) (R : Nat → Nat) (N : Nat → Nat) (k : Nat) : bookUs v0 v1 v2 ra rb rc na nb nc R N (k + 1) = bookUs v0 v1 v2 ra rb rc na nb nc R N k ++ [headV (R k) (N k)] := by
  simp [bookUs, List.range_succ]
theorem bookUs_len (v0 v1 v2 : Value) (ra rb rc na nb nc : Nat) (R : Nat → Nat) (N : Nat → Nat) (k : Nat) : (bookUs v0 v1 v2 ra rb rc na nb nc R N k).length = k + 6 := by simp [bookUs]
def bookLo (b1 b2 b4 ra rb rc : Nat) (R : Nat → Nat) : Nat → Nat
  | 0 => b1 | 1 => b2 | 2 => b4 | 3 => ra | 4 => rb | 5 => rc | i + 6 => R i
def bookHi (b2 b3 b5 ra rb rc : Nat) (R : Nat → Nat) : Nat → Nat
  | 0 => b2 | 1 => b3 | 2 => b5 | 3 => ra + 1 | 4 => rb + 1 | 5 => rc + 1 | i + 6 => R i + 1
theorem own_head (g n : Nat) {x : Nat} (h : (headV g n).ownBlock = some x) : x = g := by simpa [Value.ownBlock, eq_comm] using h
/-- What the book's lists are, each at its place. -/
theorem book_each {wr : World} {v0 v1 v2 : Value} {z0 z1 z2 xa ya za : List Int} {ra rb rc na nb nc b1 b2 b3 b4 b5 g1 g2 : Nat} {Ys : List (List Int)} {R : Nat → Nat} {N : Nat → Nat} {V1 V2 : List Value}
    (p0 : Pm b1 b2 wr v0 z0) (p1 : Pm b2 b3 wr v1 z1) (p2 : Pm b4 b5 wr v2 z2) (ma : Rm wr ra xa) (mb : Rm wr rb ya) (mc : Rm wr rc za) (L : RoomsL wr g1 g2 Ys R V1 V2 Ys.length) (la : xa.length = na) (lb : ya.length = nb) (lc : za.length = nc)
    (hN : ∀ i (h : i < Ys.length), Ys[i].length = N i) (ka : na ≤ 1048576) (kb : nb ≤ 1048576) (kc : nc ≤ 1048576) (kN : ∀ i, i < Ys.length → N i ≤ 1048576) (k0 : z0.length ≤ 1000000000) (k1 : z1.length ≤ 1000000000) (k2 : z2.length ≤ 1000000000) :
    ∀ i (hi : i < (bookUs v0 v1 v2 ra rb rc na nb nc R N Ys.length).length), (∃ zs, zs.length ≤ 1000000000 ∧ Ow wr (bookUs v0 v1 v2 ra rb rc na nb nc R N Ys.length)[i] zs) ∧
      ∀ g, ((bookUs v0 v1 v2 ra rb rc na nb nc R N Ys.length)[i]).ownBlock = some g → bookLo b1 b2 b4 ra rb rc R i ≤ g ∧ g < bookHi b2 b3 b5 ra rb rc R i := by
  intro i hi
  rw [bookUs_len] at hi
  match i, hi with
  | 0, _ => exact ⟨⟨z0, k0, p0.1.ow⟩, p0.2⟩
  | 1, _ => exact ⟨⟨z1, k1, p1.1.ow⟩, p1.2⟩
  | 2, _ => exact ⟨⟨z2, k2, p2.1.ow⟩, p2.2⟩
  | 3, _ => exact ⟨⟨xa, by omega, ma.ow la (by omega)⟩, fun g h => by have := own_head _ _ h; simp only [bookLo, bookHi]; omega⟩
  | 4, _ => exact ⟨⟨ya, by omega, mb.ow lb (by omega)⟩, fun g h => by have := own_head _ _ h; simp only [bookLo, bookHi]; omega⟩
  | 5, _ => exact ⟨⟨za, by omega, mc.ow lc (by omega)⟩, fun g h => by have := own_head _ _ h; simp only [bookLo, bookHi]; omega⟩
  | j + 6, hj =>
    have hj' : j < Ys.length := by omega
    have e : (bookUs v0 v1 v2 ra rb rc na nb nc R N Ys.length)[j + 6]'(by rw [bookUs_len]; exact hj) = headV (R j) (N j) := by simp [bookUs]
    rw [e]
    obtain ⟨_, _, r, _⟩ := L.2.2.2.2.2 j hj' hj'
    have kj := kN j hj'
    exact ⟨⟨Ys[j], by rw [hN j hj']; omega, r.ow (hN j hj') (by omega)⟩, fun g h => by have := own_head _ _ h; simp only [bookLo, bookHi]; omega⟩
theorem book_apart {b1 b2 b3 b4 b5 ra rb rc g2 n : Nat} {R : Nat → Nat} (qb : ra < rb) (qc : rb < rc) (qg : rc < g2) (hg : ∀ i, i < n → g2 < R i ∧ R i < b1) (hR : ∀ i j, i < j → j < n → R i < R j) (q1 : g2 < b1) (q2 : b1 ≤ b2) (q3 : b2 ≤ b3) (q4 : b3 ≤ b4) (q5 : b4 ≤ b5) :
    ∀ i j, i < n + 6 → j < n + 6 → i ≠ j → bookHi b2 b3 b5 ra rb rc R i ≤ bookLo b1 b2 b4 ra rb rc R j ∨ bookHi b2 b3 b5 ra rb rc R j ≤ bookLo b1 b2 b4 ra rb rc R i := by
  have one : ∀ i j, i < j → j < n + 6 → bookHi b2 b3 b5 ra rb rc R i ≤ bookLo b1 b2 b4 ra rb rc R j ∨ bookHi b2 b3 b5 ra rb rc R j ≤ bookLo b1 b2 b4 ra rb rc R i := by
    intro i j hij hj
    match i, j, hij, hj with
    | 0, 1, _, _ => simp only [bookLo, bookHi]; omega
    | 0, 2, _, _ => simp only [bookLo, bookHi]; omega
    | 0, 3, _, _ => simp only [bookLo, bookHi]; omega
    | 0, 4, _, _ => simp only [bookLo, bookHi]; omega
    | 0, 5, _, _ => simp only [bookLo, bookHi]; omega
    | 0, j + 6, _, hj => have := hg j (by omega); simp only [bookLo, bookHi]; omega
    | 1, 2, _, _ => simp only [bookLo, bookHi]; omega
    | 1, 3, _, _ => simp only [bookLo, bookHi]; omega
    | 1, 4, _, _ => simp only [bookLo, bookHi]; omega
    | 1, 5, _, _ => simp only [bookLo, bookHi]; omega
    | 1, j + 6, _, hj => have := hg j (by omega); simp only [bookLo, bookHi]; omega
    | 2, 3, _, _ => simp only [bookLo, bookHi]; omega
    | 2, 4, _, _ => simp only [bookLo, bookHi]; omega
    | 2, 5, _, _ => simp only [bookLo, bookHi]; omega
    | 2, j + 6, _, hj => have := hg j (by omega); simp only [bookLo, bookHi]; omega
    | 3, 4, _, _ => simp only [bookLo, bookHi]; omega
    | 3, 5, _, _ => simp only [bookLo, bookHi]; omega
    | 3, j + 6, _, hj => have := hg j (by omega); simp only [bookLo, bookHi]; omega
    | 4, 5, _, _ => simp only [bookLo, bookHi]; omega
    | 4, j + 6, _, hj => have := hg j (by omega); simp only [bookLo, bookHi]; omega
    | 5, j + 6, _, hj => have := hg j (by omega); simp only [bookLo, bookHi]; omega
    | i + 6, j + 6, hij, hj => have := hR i j (by omega) (by omega); simp only [bookLo, bookHi]; omega
  intro i j hi hj hne
  rcases Nat.lt_or_gt_of_ne hne with q | q
  · exact one i j q hj
  · exact (one j i q hi).symm
theorem book_low {b1 b2 b4 ra rb rc g2 n m : Nat} {R : Nat → Nat} (qa : m < ra) (qb : ra < rb) (qc : rb < rc) (qg : rc < g2) (hg : ∀ i, i < n → g2 < R i) (q1 : g2 < b1) (q2 : b1 ≤ b2) (q3 : b2 ≤ b4) : ∀ i, i < n + 6 → m < bookLo b1 b2 b4 ra rb rc R i := by
  intro i hi
  match i, hi with
  | 0, _ => simp only [bookLo]; omega
  | 1, _ => simp only [bookLo]; omega
  | 2, _ => simp only [bookLo]; omega
  | 3, _ => simp only [bookLo]; omega
  | 4, _ => simp only [bookLo]; omega
  | 5, _ => simp only [bookLo]; omega
  | j + 6, hj => have := hg j (by omega); simp only [bookLo]; omega
theorem book_high {b1 b2 b3 b5 ra rb rc g2 n C : Nat} {R : Nat → Nat} (qb : ra < rb) (qc : rb < rc) (qg : rc < g2) (hg : ∀ i, i < n → R i < b1) (q1 : g2 < b1) (q2 : b1 ≤ b2) (q3 : b2 ≤ b3) (q4 : b3 ≤ b5) (q5 : b5 ≤ C) : ∀ i, i < n + 6 → bookHi b2 b3 b5 ra rb rc R i ≤ C := by
  intro i hi
  match i, hi with
  | 0, _ => simp only [bookHi]; omega
  | 1, _ => simp only [bookHi]; omega
  | 2, _ => simp only [bookHi]; omega
  | 3, _ => simp only [bookHi]; omega
  | 4, _ => simp only [bookHi]; omega
  | 5, _ => simp only [bookHi]; omega
  | j + 6, hj => have := hg j (by omega); simp only [bookHi]; omega
theorem op_len {kind n : Int} {xs ys zs rs : List Int} {Xs : List (List Int)} (hx : WF xs) (hy : WF ys) (hz : WF zs) (hX : ∀ x ∈ Xs, WF x) (lx : xs.length ≤ 1048576) (ly : ys.length ≤ 1048576) (lz : zs.length ≤ 1048576) (lX : tot Xs ≤ 1048576) (hr : Canon rs) (hv : val rs = opV kind xs ys zs n Xs) : rs.length ≤ 1000000000 := by
  have x0 := val_nonneg hx
  have y0 := val_nonneg hy
  have xl := val_lt_pw hx
  have xy := val_mul_lt hx hy
  have zl := val_lt_pw hz
  unfold opV at hv
  split at hv
  · have fw := fst_is hy
    have : val rs < pw (xs.length + 1) := by
      rw [hv, pw_plus]
      have e : pw 1 = wB := by simp [pw]
      rw [e]
      unfold IsW at fw
      exact Int.lt_of_le_of_lt (Int.mul_le_mul_of_nonneg_right (Int.le_of_lt xl) fw.1) (Int.mul_lt_mul_of_pos_left fw.2 (pw_pos _))
    have := canon_len hr this
    omega
  split at hv
  · have := canon_len hr (by rw [hv]; exact xy)
    omega
  split at hv
  · have : val rs < pw (xs.length + ys.length + zs.length + 1) := by
      rw [hv]
      have m1 := pw_mono (show xs.length + ys.length ≤ xs.length + ys.length + zs.length by omega)
      have m2 := pw_mono (show zs.length ≤ xs.length + ys.length + zs.length by omega)
      have m3 := pw_pos (xs.length + ys.length + zs.length)
      rw [pw]
      unfold wB
      omega
    have := canon_len hr this
    omega
  split at hv
  · have : val rs < pw (xs.length + ys.length) := by
      rw [hv]
      split
      · exact pw_pos _
      · refine Int.lt_of_le_of_lt ?_ xy
        rw [val_vn hx, val_vn hy]
        have := Nat.mod_le (vn xs * vn ys) (2 ^ n.toNat)
        rw [← Int.natCast_mul]
        exact Int.ofNat_le.2 this
    have := canon_len hr this
    omega
  split at hv
  · have := canon_len hr (by rw [hv]; exact val_mul_lt hx hx)
    omega
  split at hv
  · split at hv
    · have := canon_len hr (n := 0) (by rw [hv]; exact pw_pos 0)
      omega
    split at hv
    · have := canon_len hr (n := 0) (by rw [hv]; exact pw_pos 0)
      omega
    · have h1 := pow_len x0 xl hr hv
      have h2 : n.toNat ≤ 256 := by omega
      have h3 : xs.length * n.toNat ≤ 1048576 * 256 := Nat.mul_le_mul lx h2
      omega
  split at hv
  · have := canon_len hr (by rw [hv]; exact prodv_lt hX)
    omega
  · have := canon_len hr (n := 0) (by rw [hv]; exact pw_pos 0)
    omega
theorem turnLs_lens (Xs : List (List Int)) (k : Nat) : ∀ i (h : i < (turnLs Xs k).length), ((turnLs Xs k)[i]).length = (Xs.getD i []).length := by
  intro i h
  have hi : i < Xs.length := by rw [turnLs_len] at h; exact h
  have e : (turnLs Xs k)[i]? = some (if i < k then turnL Xs[i] else Xs[i]) := by
    unfold turnLs
    by_cases q : i < k
    · rw [List.getElem?_append_left (by simp; omega), if_pos q]
      simp [q, hi]
    · have hl : ((Xs.take k).map turnL).length = k := by simp; omega
      rw [List.getElem?_append_right (by omega), hl, if_neg q, List.getElem?_drop, show k + (i - k) = i by omega]
      simp [hi]
  have e2 := (List.getElem?_eq_some_iff.1 e).2
  rw [e2]
  have e3 : Xs.getD i [] = Xs[i] := by simp [hi]
  rw [e3]
  split
  · exact turnL_len _
  · rfl
/-- A book whose lists lie in intervals apart. -/
theorem Bw.bks {B : Nat} {w : World} {bb n : Nat} {Us : List Value} {lo hi : Nat → Nat} (h : Bw B w bb Us) (hlen : Us.length = n + 6) (hn : n ≤ 1048576)
    (each : ∀ i (h : i < Us.length), (∃ zs, zs.length ≤ 1000000000 ∧ Ow w Us[i] zs) ∧ ∀ g, Us[i].ownBlock = some g → lo i ≤ g ∧ g < hi i)
    (low : ∀ i, i < n + 6 → hi i ≤ B) (apart : ∀ i j, i < n + 6 → j < n + 6 → i ≠ j → hi i ≤ lo j ∨ hi j ≤ lo i) :
    ∃ gb L, Bk w bb gb Us.length (fun i => Us.getD i (.slice none 0 0)) L ∧ w.cell? ⟨bb, 1, none⟩ = some (.slice none 0 0) ∧ w.cell? ⟨bb, 2, none⟩ = some (.slice none 0 0) := by
  let L : Nat → Nat := fun i => if q : i < Us.length then (Classical.choose (each i q).1).length else 0
  have hL : ∀ i (q : i < Us.length), L i = (Classical.choose (each i q).1).length := fun i q => dif_pos q
  obtain ⟨gb, k1, k2, k3⟩ := h.bk (by omega) (by omega) L
    (fun i q => ⟨Classical.choose (each i q).1, (hL i q).symm, (Classical.choose_spec (each i q).1).2⟩)
    (fun i q => by rw [hL i q]; exact (Classical.choose_spec (each i q).1).1)
    (fun i q g hg => by have h1 := (each i q).2 g hg; have h2 := low i (by omega); omega)
    (fun i j qi qj hne g h1 h2 => by
      have a1 := (each i qi).2 g h1
      have a2 := (each j qj).2 g h2
      have a3 := apart i j (by omega) (by omega) hne
      omega)
  exact ⟨gb, L, k1, k2, k3⟩
theorem blk_low {n m : Nat} {Us : List Value} {lo hi : Nat → Nat} (hlen : Us.length = n) (each : ∀ i (h : i < Us.length), ∀ g, Us[i].ownBlock = some g → lo i ≤ g ∧ g < hi i) (low : ∀ i, i < n → m < lo i) : ∀ g, Blk Us.length (fun i => Us.getD i (.slice none 0 0)) g → m < g := by
  rintro g ⟨i, hi', e⟩
  have eg : Us.getD i (.slice none 0 0) = Us[i] := by simp [hi']
  dsimp only at e
  rw [eg] at e
  have h1 := (each i hi' g e).1
  have h2 := low i (by omega)
  omega
end Go.Proofs.Ytnbjlpeclaieeaa
