/-
  Keeps0: what the walk of NatKeeps carries from call to call: two boxes, lists with places of their own, a book of six.
-/
import Derived.Test.YtagfekcocdjhlaaDoorCounts
import Derived.Test.YtagfekcocdjhlaaDoorOwned
import Derived.Test.YtagfekcocdjhlaaDoorApart
import Derived.Test.YtagfekcocdjhlaaDoorAwake
namespace Go.Proofs.YtagfekcocdjhlaaDoor
open Go.RowKit
set_option linter.unusedVariables false

/-- Both boxes lie at their places; below them nothing has turned. -/
def Bx2 (w : World) (O P : Obj) (wr : World) : Prop := Below w.heap.size w wr ∧ wr.heap[w.heap.size]? = some O ∧ wr.heap[w.heap.size + 1]? = some P
theorem Bx2.lt {w wr : World} {O P : Obj} (h : Bx2 w O P wr) : w.heap.size + 1 < wr.heap.size := (Array.getElem?_eq_some_iff.1 h.2.2).1
theorem Bx2.start (w : World) (O P : Obj) : Bx2 w O P ((w.alloc O).alloc P) := by
  refine ⟨((Below.refl _ _).alloc (Nat.le_refl _) _).alloc (by simp) _, ?_, ?_⟩
  · exact (Below.heap_alloc (w.alloc O) P w.heap.size (by simp)).trans (heap_alloc_new w O)
  · have := heap_alloc_new (w.alloc O) P
    simpa using this
theorem Bx2.step {w wr w' : World} {O P : Obj} (h : Bx2 w O P wr) (k : Below wr.heap.size wr w') : Bx2 w O P w' :=
  ⟨below_step h.1 k, (k.block _ (by have := h.lt; omega)).trans h.2.1, (k.block _ h.lt).trans h.2.2⟩
theorem Bx2.touch {w wr w' : World} {O P : Obj} {S : Nat → Prop} (h : Bx2 w O P wr) (k : Touch S wr w') (hS : ∀ g, S g → w.heap.size + 1 < g) : Bx2 w O P w' := by
  have hl := h.lt
  have no : ∀ g, g ≤ w.heap.size + 1 → ¬ S g := fun g hg q => by have := hS g q; omega
  exact ⟨⟨k.os.trans h.1.os, k.tape.trans h.1.tape, k.output.trans h.1.output, Nat.le_trans h.1.size k.size, fun j hj => (k.block j (Nat.lt_of_lt_of_le hj h.1.size) (no j (by omega))).trans (h.1.block j hj)⟩,
    (k.block _ (by omega) (no _ (by omega))).trans h.2.1, (k.block _ hl (no _ (by omega))).trans h.2.2⟩
theorem Bx2.cell {w wr : World} {cs : Array Value} {t : TypeId} {P : Obj} (h : Bx2 w (.cells cs t) P wr) (j : Nat) : wr.cell? ⟨w.heap.size, j, none⟩ = cs[j]? := by
  have := h.2.1
  simp [World.cell?, this]
theorem Bx2.cell' {w wr : World} {cs : Array Value} {t : TypeId} {O : Obj} (h : Bx2 w O (.cells cs t) wr) (j : Nat) : wr.cell? ⟨w.heap.size + 1, j, none⟩ = cs[j]? := by
  have := h.2.2
  simp [World.cell?, this]

/-- A list of its own whose block lies from B on, below C. -/
def Pl (B C : Nat) (w : World) (v : Value) (zs : List Int) : Prop := Own B w v zs ∧ zs.length ≤ 35184372088832 ∧ ∀ g, v.ownBlock = some g → B ≤ g ∧ g < C
theorem Own.below_size {B : Nat} {w : World} {v : Value} {zs : List Int} (h : Own B w v zs) {g : Nat} (hg : v.ownBlock = some g) : g < w.heap.size := by
  obtain ⟨hw, ⟨h1, h2⟩ | ⟨g', r, h1, h2, h3, h4⟩⟩ := h
  · subst h1; cases hg
  · subst h3; simp [Value.ownBlock] at hg; subst hg; exact h4.lt
theorem Pl.of {K B C : Nat} {w : World} {v : Value} {zs : List Int} (h : OwnK K B w v zs) (hC : w.heap.size = C) : Pl B C w v zs :=
  ⟨h.1, h.1.most, fun g hg => ⟨h.1.atLeast hg, by rw [← hC]; exact h.1.below_size hg⟩⟩
theorem Pl.keep {B C : Nat} {w w' : World} {v : Value} {zs : List Int} (h : Pl B C w v zs) (hk : ∀ g, v.ownBlock = some g → w'.heap[g]? = w.heap[g]?) : Pl B C w' v zs := by
  obtain ⟨⟨hw, h1 | ⟨g, r, h1, h2, h3, h4⟩⟩, hl, hg⟩ := h
  · exact ⟨⟨hw, .inl h1⟩, hl, hg⟩
  · exact ⟨⟨hw, .inr ⟨g, r, h1, h2, h3, (hk g (by rw [h3]; rfl)).trans h4⟩⟩, hl, hg⟩
theorem Pl.step {B C : Nat} {w w' : World} {v : Value} {zs : List Int} (h : Pl B C w v zs) (hb : Below w.heap.size w w') : Pl B C w' v zs :=
  h.keep fun g hg => hb.block g (h.1.below_size hg)
theorem Pl.touch {B C : Nat} {w w' : World} {v : Value} {zs : List Int} {S : Nat → Prop} (h : Pl B C w v zs) (ht : Touch S w w') (hS : ∀ g, B ≤ g → g < C → ¬ S g) : Pl B C w' v zs :=
  h.keep fun g hg => ht.block g (h.1.below_size hg) (hS g (h.2.2 g hg).1 (h.2.2 g hg).2)
theorem Pl.sl {B C : Nat} {w : World} {v : Value} {zs : List Int} (h : Pl B C w v zs) : Sl w.heap.size w v zs := h.1.sl
theorem Pl.form {B C : Nat} {w : World} {v : Value} {zs : List Int} (h : Pl B C w v zs) : ∃ a cap, v = .slice a zs.length cap := h.1.form

/-- Six values, by number. -/
def six (v0 v1 v2 v3 v4 v5 : Value) (i : Nat) : Value := if i = 0 then v0 else if i = 1 then v1 else if i = 2 then v2 else if i = 3 then v3 else if i = 4 then v4 else v5
theorem six_free {v0 v1 v2 v3 v4 v5 : Value} {b0 c0 b1 c1 b2 c2 b3 c3 b4 c4 b5 c5 : Nat} (h0 : ∀ g, v0.ownBlock = some g → b0 ≤ g ∧ g < c0) (h1 : ∀ g, v1.ownBlock = some g → b1 ≤ g ∧ g < c1) (h2 : ∀ g, v2.ownBlock = some g → b2 ≤ g ∧ g < c2)
    (h3 : ∀ g, v3.ownBlock = some g → b3 ≤ g ∧ g < c3) (h4 : ∀ g, v4.ownBlock = some g → b4 ≤ g ∧ g < c4) (h5 : ∀ g, v5.ownBlock = some g → b5 ≤ g ∧ g < c5) {g : Nat}
    (hg : (g < b0 ∨ c0 ≤ g) ∧ (g < b1 ∨ c1 ≤ g) ∧ (g < b2 ∨ c2 ≤ g) ∧ (g < b3 ∨ c3 ≤ g) ∧ (g < b4 ∨ c4 ≤ g) ∧ (g < b5 ∨ c5 ≤ g)) : ¬ Blk 6 (six v0 v1 v2 v3 v4 v5) g := by
  rintro ⟨i, hi, he⟩
  unfold six at he
  split at he
  · have := h0 g he; omega
  split at he
  · have := h1 g he; omega
  split at he
  · have := h2 g he; omega
  split at he
  · have := h3 g he; omega
  split at he
  · have := h4 g he; omega
  · have := h5 g he; omega
theorem six_low {v0 v1 v2 v3 v4 v5 : Value} {b0 c0 b1 c1 b2 c2 b3 c3 b4 c4 b5 c5 : Nat} (h0 : ∀ g, v0.ownBlock = some g → b0 ≤ g ∧ g < c0) (h1 : ∀ g, v1.ownBlock = some g → b1 ≤ g ∧ g < c1) (h2 : ∀ g, v2.ownBlock = some g → b2 ≤ g ∧ g < c2)
    (h3 : ∀ g, v3.ownBlock = some g → b3 ≤ g ∧ g < c3) (h4 : ∀ g, v4.ownBlock = some g → b4 ≤ g ∧ g < c4) (h5 : ∀ g, v5.ownBlock = some g → b5 ≤ g ∧ g < c5) {m g : Nat}
    (hm : m < b0 ∧ m < b1 ∧ m < b2 ∧ m < b3 ∧ m < b4 ∧ m < b5) (hg : Blk 6 (six v0 v1 v2 v3 v4 v5) g) : m < g := by
  obtain ⟨i, hi, he⟩ := hg
  unfold six at he
  split at he
  · have := h0 g he; omega
  split at he
  · have := h1 g he; omega
  split at he
  · have := h2 g he; omega
  split at he
  · have := h3 g he; omega
  split at he
  · have := h4 g he; omega
  · have := h5 g he; omega
theorem bk6 {w : World} {bb gb : Nat} {v0 v1 v2 v3 v4 v5 : Value} {z0 z1 z2 z3 z4 z5 : List Int} {b0 c0 b1 c1 b2 c2 b3 c3 b4 c4 b5 c5 : Nat}
    (h0 : Pl b0 c0 w v0 z0) (h1 : Pl b1 c1 w v1 z1) (h2 : Pl b2 c2 w v2 z2) (h3 : Pl b3 c3 w v3 z3) (h4 : Pl b4 c4 w v4 z4) (h5 : Pl b5 c5 w v5 z5)
    (l0 : z0.length ≤ 1100000) (l1 : z1.length ≤ 1100000) (l2 : z2.length ≤ 1100000) (l3 : z3.length ≤ 1100000) (l4 : z4.length ≤ 1100000) (l5 : z5.length ≤ 1100000)
    (o1 : c0 ≤ b1) (o1' : b1 ≤ c1) (o2 : c1 ≤ b2) (o2' : b2 ≤ c2) (o3 : c2 ≤ b3) (o3' : b3 ≤ c3) (o4 : c3 ≤ b4) (o4' : b4 ≤ c4) (o5 : c4 ≤ b5) (o5' : b5 ≤ c5)
    (hb : c5 ≤ bb) (hg : c5 ≤ gb) (bl : bb < w.heap.size) (gl : gb < w.heap.size)
    (head : w.cell? ⟨bb, 0, none⟩ = some (.slice (some ⟨gb, 0, none⟩) 6 6)) (item : ∀ i, i < 6 → w.cell? ⟨gb, i, none⟩ = some (six v0 v1 v2 v3 v4 v5 i)) :
    ∃ L, Bk w bb gb 6 (six v0 v1 v2 v3 v4 v5) L := by
  let Z : Nat → List Int := fun i => if i = 0 then z0 else if i = 1 then z1 else if i = 2 then z2 else if i = 3 then z3 else if i = 4 then z4 else z5
  let Bs : Nat → Nat := fun i => if i = 0 then b0 else if i = 1 then b1 else if i = 2 then b2 else if i = 3 then b3 else if i = 4 then b4 else b5
  let Cs : Nat → Nat := fun i => if i = 0 then c0 else if i = 1 then c1 else if i = 2 then c2 else if i = 3 then c3 else if i = 4 then c4 else c5
  have hall : ∀ i, i < 6 → Pl (Bs i) (Cs i) w (six v0 v1 v2 v3 v4 v5 i) (Z i) ∧ (Z i).length ≤ 1100000 := fun i hi => by
    match i, hi with
    | 0, _ => exact ⟨h0, l0⟩
    | 1, _ => exact ⟨h1, l1⟩
    | 2, _ => exact ⟨h2, l2⟩
    | 3, _ => exact ⟨h3, l3⟩
    | 4, _ => exact ⟨h4, l4⟩
    | 5, _ => exact ⟨h5, l5⟩
  have hord : ∀ i j, i < j → j < 6 → Cs i ≤ Bs j := fun i j hij hj => by
    match j, hj with
    | 0, _ => omega
    | 1, _ => match i, hij with | 0, _ => show c0 ≤ b1; omega
    | 2, _ => match i, hij with
      | 0, _ => show c0 ≤ b2; omega
      | 1, _ => show c1 ≤ b2; omega
    | 3, _ => match i, hij with
      | 0, _ => show c0 ≤ b3; omega
      | 1, _ => show c1 ≤ b3; omega
      | 2, _ => show c2 ≤ b3; omega
    | 4, _ => match i, hij with
      | 0, _ => show c0 ≤ b4; omega
      | 1, _ => show c1 ≤ b4; omega
      | 2, _ => show c2 ≤ b4; omega
      | 3, _ => show c3 ≤ b4; omega
    | 5, _ => match i, hij with
      | 0, _ => show c0 ≤ b5; omega
      | 1, _ => show c1 ≤ b5; omega
      | 2, _ => show c2 ≤ b5; omega
      | 3, _ => show c3 ≤ b5; omega
      | 4, _ => show c4 ≤ b5; omega
  have free : ∀ g, c5 ≤ g → ¬ Blk 6 (six v0 v1 v2 v3 v4 v5) g := fun g hg =>
    six_free h0.2.2 h1.2.2 h2.2.2 h3.2.2 h4.2.2 h5.2.2 ⟨by omega, by omega, by omega, by omega, by omega, by omega⟩
  refine ⟨fun i => (Z i).length, ⟨by omega, bl, gl, head, item, fun i hi => ⟨Z i, rfl, (hall i hi).1.1.ow⟩, fun i hi => by have := (hall i hi).2; omega, ?_, free _ hb, free _ hg⟩⟩
  intro i j hi hj hne g hgi hgj
  have ri := (hall i hi).1.2.2 g hgi
  have rj := (hall j hj).1.2.2 g hgj
  rcases Nat.lt_or_gt_of_ne hne with q | q
  · have := hord i j q hj; omega
  · have := hord j i q hi; omega

theorem cell_row {w : World} {g : Nat} {cs : Array Value} {t : TypeId} {f : Nat × Nat} (h : w.heap[g]? = some (.cells cs t f)) (j : Nat) : w.cell? ⟨g, j, none⟩ = cs[j]? := by simp [World.cell?, h]
/-- A book of six lists, as the call writes it down. -/
theorem book_new (w : World) (v0 v1 v2 v3 v4 v5 : Value) {wb : World} (hwb : wb = (w.alloc (.cells #[v0, v1, v2, v3, v4, v5] 22)).alloc (.cells #[.slice (some ⟨w.heap.size, 0, none⟩) 6 6, .slice none 0 0, .slice none 0 0] 35)) :
    Below w.heap.size w wb ∧ wb.heap.size = w.heap.size + 2 ∧ wb.cell? ⟨w.heap.size + 1, 0, none⟩ = some (.slice (some ⟨w.heap.size, 0, none⟩) 6 6) ∧ wb.cell? ⟨w.heap.size + 1, 1, none⟩ = some (.slice none 0 0) ∧ wb.cell? ⟨w.heap.size + 1, 2, none⟩ = some (.slice none 0 0) ∧
      ∀ i, i < 6 → wb.cell? ⟨w.heap.size, i, none⟩ = some (six v0 v1 v2 v3 v4 v5 i) := by
  subst hwb
  have hB2 : ((w.alloc (.cells #[v0, v1, v2, v3, v4, v5] 22)).alloc (.cells #[.slice (some ⟨w.heap.size, 0, none⟩) 6 6, .slice none 0 0, .slice none 0 0] 35)).heap[w.heap.size + 1]? = some (.cells #[.slice (some ⟨w.heap.size, 0, none⟩) 6 6, .slice none 0 0, .slice none 0 0] 35) := by
    have := heap_alloc_new (w.alloc (.cells #[v0, v1, v2, v3, v4, v5] 22)) (.cells #[.slice (some ⟨w.heap.size, 0, none⟩) 6 6, .slice none 0 0, .slice none 0 0] 35)
    simpa using this
  have hB1 : ((w.alloc (.cells #[v0, v1, v2, v3, v4, v5] 22)).alloc (.cells #[.slice (some ⟨w.heap.size, 0, none⟩) 6 6, .slice none 0 0, .slice none 0 0] 35)).heap[w.heap.size]? = some (.cells #[v0, v1, v2, v3, v4, v5] 22) :=
    (Below.heap_alloc (w.alloc (.cells #[v0, v1, v2, v3, v4, v5] 22)) _ w.heap.size (by simp)).trans (heap_alloc_new w _)
  refine ⟨((Below.refl _ _).alloc (Nat.le_refl _) _).alloc (by simp) _, by simp, (cell_row hB2 0).trans rfl, (cell_row hB2 1).trans rfl, (cell_row hB2 2).trans rfl, fun i hi => ?_⟩
  match i, hi with
  | 0, _ => exact (cell_row hB1 0).trans rfl
  | 1, _ => exact (cell_row hB1 1).trans rfl
  | 2, _ => exact (cell_row hB1 2).trans rfl
  | 3, _ => exact (cell_row hB1 3).trans rfl
  | 4, _ => exact (cell_row hB1 4).trans rfl
  | 5, _ => exact (cell_row hB1 5).trans rfl
end Go.Proofs.YtagfekcocdjhlaaDoor
