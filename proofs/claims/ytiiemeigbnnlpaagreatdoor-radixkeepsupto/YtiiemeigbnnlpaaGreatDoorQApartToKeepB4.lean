/-
  QApartToKeepB4: Apart, KeepB4, joined.
-/
import Derived.Test.YtiiemeigbnnlpaaGreatDoorQBook
import Derived.Test.YtiiemeigbnnlpaaGreatDoorQTimesToByWord

/- Apart -/
namespace Go.Proofs.YtiiemeigbnnlpaaGreatDoor
open Go.RowKit

theorem Tryz.infoII : (Tryz.prog.info? 71).map (fun i => (i.zero, i.size, i.bytes)) = some (some (.slice none 0 0), 1, 24) := by kernel_rfl
theorem Tryz.infoNN : (Tryz.prog.info? 54).map (fun i => (i.zero, i.size, i.bytes)) = some (some (.slice none 0 0), 1, 24) := by kernel_rfl
theorem wpList_make_none (w : World) {ops : Array Oper} {rest : List Oper} {o : Oper} {a : Act} {Q : Exit → Act → World → Prop} (t e : TypeId)
    (ht : Tryz.prog.underlying t = some (.slice e)) (hin : (Tryz.prog.info? e).map (fun i => (i.zero, i.size, i.bytes)) = some (some (.slice none 0 0), 1, 24))
    (hg : o.guard = none) (l c : Operand) (hop : o.op = Op.makeSlice t l c)
    (hl : a.eval l = .int .i64 0) (hc : a.eval c = .int .i64 0)
    (hK : ∀ w', Below w.heap.size w w' → wpList Tryz.prog ops Q rest (a.put o.dst (.slice (some ⟨w.heap.size, 0, none⟩) 0 0)) w') :
    wpList Tryz.prog ops Q (o :: rest) a w := by
  refine wpList_plain hg fun K hK' => ?_
  obtain ⟨i, hi, hz, hs, hb⟩ := info_parts hin
  have hrun := run_make (P := Tryz.prog) w t e i (.slice none 0 0) ht hi hz .i64 .i64 0 0 (by omega) (by omega) (by rw [hb]; omega) (by omega)
  unfold Oper.wp
  simp [execOp, hop, hl, hc, hrun, Result.andThen]
  exact hK' _ _ (hK _ ((Below.refl _ _).alloc (Nat.le_refl _) _))

set_option maxRecDepth 100000 in
set_option maxHeartbeats 1600000 in
theorem ints_none {w : World} {bb : Nat} (hc : w.cell? ⟨bb, 1, none⟩ = some (.slice none 0 0)) (hlt : bb < w.heap.size) :
    Calls Tryz.prog 20 #[.pointer (some ⟨bb, 0, none⟩)] w fun e w' => e = .returned (.bool true) ∧ Below w.heap.size w w' := by
  go_enter Tryz.func20, Tryz.ntmps20
  go_wp2_with fail
  go_loopw [3] (fun i wr => i = .int .i64 0 ∧ wr = w) (fun _ _ => 0)
  case atStart => exact ⟨rfl, rfl⟩
  case round =>
    obtain ⟨rfl, rfl⟩ := hrel
    go_wp2_with (at_make; refine wpList_make_none _ 32 71 Tryz.underlying32 Tryz.infoII rfl _ _ rfl rfl rfl ?_)
    intro w2 hb2
    have hc2 := (hb2.cell (p := ⟨bb, 1, none⟩) hlt).trans hc
    have HB2 := hid hb2
    clear hc hb2
    go_wp2_with fail
    go_loopw [7] (fun i wr => i = .int .i64 0 ∧ wr = w2) (fun _ _ => 0)
    case atStart => exact ⟨rfl, rfl⟩
    case round =>
      obtain ⟨rfl, rfl⟩ := hrel
      go_wp2_with fail
      rename World => wq
      go_loopw [10] (fun i wr => i = .int .i64 0 ∧ wr = wq) (fun _ _ => 0)
      case atStart => exact ⟨rfl, rfl⟩
      case round =>
        obtain ⟨rfl, rfl⟩ := hrel
        go_wp2
        go_ret
        exact ⟨rfl, HB2.out⟩

set_option maxRecDepth 100000 in
set_option maxHeartbeats 1600000 in
theorem nums_none {w : World} {bb : Nat} (hc : w.cell? ⟨bb, 2, none⟩ = some (.slice none 0 0)) (hlt : bb < w.heap.size) :
    Calls Tryz.prog 21 #[.pointer (some ⟨bb, 0, none⟩)] w fun e w' => e = .returned (.bool true) ∧ Below w.heap.size w w' := by
  go_enter Tryz.func21, Tryz.ntmps21
  go_wp2_with fail
  go_loopw [3] (fun i wr => i = .int .i64 0 ∧ wr = w) (fun _ _ => 0)
  case atStart => exact ⟨rfl, rfl⟩
  case round =>
    obtain ⟨rfl, rfl⟩ := hrel
    go_wp2_with (at_make; refine wpList_make_none _ 33 54 Tryz.underlying33 Tryz.infoNN rfl _ _ rfl rfl rfl ?_)
    intro w2 hb2
    have hc2 := (hb2.cell (p := ⟨bb, 2, none⟩) hlt).trans hc
    have HB2 := hid hb2
    clear hc hb2
    go_wp2_with fail
    go_loopw [7] (fun i wr => i = .int .i64 0 ∧ wr = w2) (fun _ _ => 0)
    case atStart => exact ⟨rfl, rfl⟩
    case round =>
      obtain ⟨rfl, rfl⟩ := hrel
      go_wp2_with fail
      rename World => wq
      go_loopw [10] (fun i wr => i = .int .i64 0 ∧ wr = wq) (fun _ _ => 0)
      case atStart => exact ⟨rfl, rfl⟩
      case round =>
        obtain ⟨rfl, rfl⟩ := hrel
        go_wp2
        go_ret
        exact ⟨rfl, HB2.out⟩

theorem apart_yes {w : World} {bb gb n : Nat} {U : Nat → Value} {L : Nat → Nat} (hB : Bk w bb gb n U L) (h1 : w.cell? ⟨bb, 1, none⟩ = some (.slice none 0 0)) (h2 : w.cell? ⟨bb, 2, none⟩ = some (.slice none 0 0)) :
    Calls Tryz.prog 8 #[.pointer (some ⟨bb, 0, none⟩)] w fun e w' => e = .returned (.bool true) ∧ Touch (Blk n U) w w' := by
  have HB := hid hB
  have HC := hid h1
  have HD := hid h2
  clear hB h1 h2
  go_enter Tryz.func8, Tryz.ntmps8
  go_wp2_with fail
  refine (words_yes HB.out).mono ?_
  rintro e w1 ⟨rfl, t1⟩
  have T1 := hid t1
  clear t1
  go_wp2_with fail
  refine (ints_none ((T1.out.cell HB.out.bb_lt HB.out.bb_free 1).trans HC.out) (Nat.lt_of_lt_of_le HB.out.bb_lt T1.out.size)).mono ?_
  rintro e w2 ⟨rfl, t2⟩
  have T2 := hid (T1.out.trans (.ofBelow t2))
  clear t2
  go_wp2_with fail
  refine (nums_none ((T2.out.cell HB.out.bb_lt HB.out.bb_free 2).trans HD.out) (Nat.lt_of_lt_of_le HB.out.bb_lt T2.out.size)).mono ?_
  rintro e w3 ⟨rfl, t3⟩
  have T3 := hid (T2.out.trans (.ofBelow t3))
  clear t3
  go_wp2
  go_ret
  exact ⟨rfl, T3.out⟩
end Go.Proofs.YtiiemeigbnnlpaaGreatDoor

/- KeepB4 -/
namespace Go.Proofs.YtiiemeigbnnlpaaGreatDoor
open Go.RowKit
set_option linter.unusedVariables false

theorem Mine.ow4 {B : Nat} {w : World} {v : Value} {zs : List Int} (h : Mine B w v zs) : Ow w v zs := by
  obtain ⟨hw, ⟨h1, h2⟩ | ⟨g, r, cap, h1, h2, h3, h4, h5, h6⟩⟩ := h
  · subst h1 h2; exact Ow.nil w
  · rcases h4 with e | ⟨e, hm⟩
    · subst e
      exact .inr ⟨g, r, h5, h6, h2⟩
    · refine .inl ⟨by simp [ws], .inr ⟨g, cap, (ws zs ++ r).toArray, h5, Nat.zero_le _, h6, h3, hm, ?_, ?_⟩⟩
      · simp [ws]; omega
      · simp [ws]
theorem Mine.at4 {B : Nat} {w : World} {v : Value} {zs : List Int} (h : Mine B w v zs) {g : Nat} (hg : v.ownBlock = some g) : B ≤ g ∧ g < w.heap.size := by
  obtain ⟨hw, ⟨h1, h2⟩ | ⟨g', r, cap, h1, h2, h3, h4, h5, h6⟩⟩ := h
  · subst h1; cases hg
  · rw [h5] at hg
    simp only [Value.ownBlock, Option.some.injEq] at hg
    subst hg
    exact ⟨h1, h6.lt⟩
/-- A list that was read between two sizes of the memory. -/
def PlM (B C : Nat) (w : World) (v : Value) (zs : List Int) : Prop := Mine B w v zs ∧ ∀ g, v.ownBlock = some g → B ≤ g ∧ g < C
theorem PlM.of {B C : Nat} {w : World} {v : Value} {zs : List Int} (h : Mine B w v zs) (hC : w.heap.size = C) : PlM B C w v zs := ⟨h, fun g hg => by have := h.at4 hg; omega⟩
theorem PlM.step {B C : Nat} {w w' : World} {v : Value} {zs : List Int} (h : PlM B C w v zs) (hb : Below w.heap.size w w') : PlM B C w' v zs := ⟨h.1.below hb, h.2⟩
def four (v0 v1 v2 v3 : Value) (i : Nat) : Value := if i = 0 then v0 else if i = 1 then v1 else if i = 2 then v2 else v3
theorem four_free {v0 v1 v2 v3 : Value} {b0 c0 b1 c1 b2 c2 b3 c3 : Nat} (h0 : ∀ g, v0.ownBlock = some g → b0 ≤ g ∧ g < c0) (h1 : ∀ g, v1.ownBlock = some g → b1 ≤ g ∧ g < c1) (h2 : ∀ g, v2.ownBlock = some g → b2 ≤ g ∧ g < c2) (h3 : ∀ g, v3.ownBlock = some g → b3 ≤ g ∧ g < c3) {g : Nat} (hg : c0 ≤ g ∧ c1 ≤ g ∧ c2 ≤ g ∧ c3 ≤ g) : ¬ Blk 4 (four v0 v1 v2 v3) g := by
  rintro ⟨i, hi, e⟩
  match i, hi with
  | 0, _ => have := h0 g e; omega
  | 1, _ => have := h1 g e; omega
  | 2, _ => have := h2 g e; omega
  | 3, _ => have := h3 g e; omega
theorem bk4 {w : World} {bb gb : Nat} {v0 v1 v2 v3 : Value} {z0 z1 z2 z3 : List Int} {b0 c0 b1 c1 b2 c2 b3 c3 : Nat}
    (h0 : PlM b0 c0 w v0 z0) (h1 : PlM b1 c1 w v1 z1) (h2 : PlM b2 c2 w v2 z2) (h3 : PlM b3 c3 w v3 z3)
    (l0 : z0.length ≤ 1100000) (l1 : z1.length ≤ 1100000) (l2 : z2.length ≤ 1100000) (l3 : z3.length ≤ 1100000)
    (o1 : c0 ≤ b1) (o1' : b1 ≤ c1) (o2 : c1 ≤ b2) (o2' : b2 ≤ c2) (o3 : c2 ≤ b3) (o3' : b3 ≤ c3)
    (hb : c3 ≤ bb) (hg : c3 ≤ gb) (bl : bb < w.heap.size) (gl : gb < w.heap.size)
    (head : w.cell? ⟨bb, 0, none⟩ = some (.slice (some ⟨gb, 0, none⟩) 4 4)) (item : ∀ i, i < 4 → w.cell? ⟨gb, i, none⟩ = some (four v0 v1 v2 v3 i)) :
    ∃ L, Bk w bb gb 4 (four v0 v1 v2 v3) L := by
  let Z : Nat → List Int := fun i => if i = 0 then z0 else if i = 1 then z1 else if i = 2 then z2 else z3
  let Bs : Nat → Nat := fun i => if i = 0 then b0 else if i = 1 then b1 else if i = 2 then b2 else b3
  let Cs : Nat → Nat := fun i => if i = 0 then c0 else if i = 1 then c1 else if i = 2 then c2 else c3
  have hall : ∀ i, i < 4 → PlM (Bs i) (Cs i) w (four v0 v1 v2 v3 i) (Z i) ∧ (Z i).length ≤ 1100000 := fun i hi => by
    match i, hi with
    | 0, _ => exact ⟨h0, l0⟩
    | 1, _ => exact ⟨h1, l1⟩
    | 2, _ => exact ⟨h2, l2⟩
    | 3, _ => exact ⟨h3, l3⟩
  have hord : ∀ i j, i < j → j < 4 → Cs i ≤ Bs j := fun i j hij hj => by
    match j, hj with
    | 0, _ => omega
    | 1, _ => match i, hij with | 0, _ => show c0 ≤ b1; omega
    | 2, _ => match i, hij with
      | 0, _ => show c0 ≤ b2; omega
      | 1, _ => show c1 ≤ b2; omega
    | 3, _ => match i, hij with
      | 0, _ => show c0 ≤ b3; omega
      | 1, _ => show c1 ≤ b3; omega
      | 2, _ => show c2 ≤ b3; omega
  have free : ∀ g, c3 ≤ g → ¬ Blk 4 (four v0 v1 v2 v3) g := fun g hg => four_free h0.2 h1.2 h2.2 h3.2 ⟨by omega, by omega, by omega, by omega⟩
  refine ⟨fun i => (Z i).length, ⟨by omega, bl, gl, ⟨_, head⟩, item, fun i hi => ⟨Z i, rfl, (hall i hi).1.1.ow4⟩, fun i hi => by have := (hall i hi).2; omega, ?_, free _ hb, free _ hg⟩⟩
  intro i j hi hj hne g hgi hgj
  have ri := (hall i hi).1.2 g hgi
  have rj := (hall j hj).1.2 g hgj
  rcases Nat.lt_or_gt_of_ne hne with q | q
  · have := hord i j q hj; omega
  · have := hord j i q hi; omega
theorem cell_row4 {w : World} {g : Nat} {cs : Array Value} {t : TypeId} {f : Nat × Nat} (h : w.heap[g]? = some (.cells cs t f)) (j : Nat) : w.cell? ⟨g, j, none⟩ = cs[j]? := by simp [World.cell?, h]
/-- A book of four lists, as the call writes it down. -/
theorem book_new4 (w : World) (v0 v1 v2 v3 : Value) {wb : World} (hwb : wb = (w.alloc (.cells #[v0, v1, v2, v3] 22)).alloc (.cells #[.slice (some ⟨w.heap.size, 0, none⟩) 4 4, .slice none 0 0, .slice none 0 0] 35)) :
    Below w.heap.size w wb ∧ wb.heap.size = w.heap.size + 2 ∧ wb.cell? ⟨w.heap.size + 1, 0, none⟩ = some (.slice (some ⟨w.heap.size, 0, none⟩) 4 4) ∧ wb.cell? ⟨w.heap.size + 1, 1, none⟩ = some (.slice none 0 0) ∧ wb.cell? ⟨w.heap.size + 1, 2, none⟩ = some (.slice none 0 0) ∧
      ∀ i, i < 4 → wb.cell? ⟨w.heap.size, i, none⟩ = some (four v0 v1 v2 v3 i) := by
  subst hwb
  have hB2 := heap_alloc_new (w.alloc (.cells #[v0, v1, v2, v3] 22)) (.cells #[.slice (some ⟨w.heap.size, 0, none⟩) 4 4, .slice none 0 0, .slice none 0 0] 35)
  rw [show (w.alloc (.cells #[v0, v1, v2, v3] 22)).heap.size = w.heap.size + 1 by simp] at hB2
  have hB1 := (Below.heap_alloc (w.alloc (.cells #[v0, v1, v2, v3] 22)) (.cells #[.slice (some ⟨w.heap.size, 0, none⟩) 4 4, .slice none 0 0, .slice none 0 0] 35) w.heap.size (by simp)).trans (heap_alloc_new w _)
  refine ⟨((Below.refl _ _).alloc (Nat.le_refl _) _).alloc (by simp) _, by simp, (cell_row4 hB2 0).trans rfl, (cell_row4 hB2 1).trans rfl, (cell_row4 hB2 2).trans rfl, fun i hi => ?_⟩
  match i, hi with
  | 0, _ => exact (cell_row4 hB1 0).trans rfl
  | 1, _ => exact (cell_row4 hB1 1).trans rfl
  | 2, _ => exact (cell_row4 hB1 2).trans rfl
  | 3, _ => exact (cell_row4 hB1 3).trans rfl
end Go.Proofs.YtiiemeigbnnlpaaGreatDoor
