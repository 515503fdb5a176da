/-
  QByteRowToOpenO4: ByteRow, OpenT, OpenO4, joined.
-/
import Derived.Test.YtiiemeigbnnlpaaGreatDoorQSubToTouch
import Derived.Test.YtiiemeigbnnlpaaGreatDoorRows
import Derived.Test.YtiiemeigbnnlpaaGreatDoorQBaseToInts
import Derived.Lib.LaidTab
import Derived.ShutString
import Derived.ChangeMaps5
import Derived.Lib.SmallJoins

/- ByteRow -/
namespace Go.Proofs.YtiiemeigbnnlpaaGreatDoor
open Go.RowKit
set_option linter.unusedVariables false

abbrev bs (L : List Int) : List Value := L.map (Value.int .u8)
/-- Block g holds the bytes L. -/
def RowB (w : World) (g : Nat) (L : List Int) : Prop := w.heap[g]? = some (.cells (bs L).toArray 5 (0, 0))
theorem RowB.lt {w : World} {g : Nat} {L : List Int} (h : RowB w g L) : g < w.heap.size := (Array.getElem?_eq_some_iff.1 h).1
theorem RowB.cell {w : World} {g : Nat} {L : List Int} (h : RowB w g L) {i : Nat} (hi : i < L.length) : w.cell? ⟨g, i, none⟩ = some (.int .u8 L[i]) := by
  unfold RowB at h
  simp [World.cell?, h, hi]
theorem RowB.frozen {w : World} {g : Nat} {L : List Int} (h : RowB w g L) (i : Nat) : w.frozen? ⟨g, i, none⟩ = false := by
  unfold RowB at h
  simp [World.frozen?, h]
theorem RowB.set {w : World} {g : Nat} {L : List Int} (h : RowB w g L) (i : Nat) (x : Int) : RowB (w.setCell ⟨g, i, none⟩ (.int .u8 x)) g (L.set i x) := by
  unfold RowB at h ⊢
  simp [World.setCell, Array.getElem?_modify, h, List.map_set]
theorem RowB.now {w w' : World} {g : Nat} {L : List Int} (h : RowB w g L) (hb : Below w.heap.size w w') : RowB w' g L := (hb.block g h.lt).trans h
theorem RowB.touch {w w' : World} {g : Nat} {L : List Int} {S : Nat → Prop} (h : RowB w g L) (ht : Touch S w w') (hS : ¬ S g) : RowB w' g L := (ht.block g h.lt hS).trans h
theorem Tryz.infoB : (Tryz.prog.info? 5).map (fun i => (i.zero, i.size, i.bytes)) = some (some (.int .u8 0), 1, 1) := by kernel_rfl
theorem madeCells_bytes (m : Nat) : madeCells (Value.int .u8 0).cells m = (bs (List.replicate m 0)).toArray := by
  apply Array.ext
  · simp [size_madeCells, bs]
  · intro i h1 h2
    simp [madeCells, Value.cells, Nat.mod_one, bs]
theorem wpList_make_bytes (w : World) {ops : Array Oper} {rest : List Oper} {o : Oper} {a : Act} {Q : Exit → Act → World → Prop}
    (hg : o.guard = none) (l c : Operand) (hop : o.op = Op.makeSlice 51 l c)
    (L C : Int) (n : Nat) (hl : a.eval l = .int .i64 L) (hc : a.eval c = .int .i64 C) (hL : L = (n : Int)) (hC : C = (n : Int)) (hm : n ≤ 35184372088832)
    (hK : ∀ w', Hid (RowB w' w.heap.size (List.replicate n 0)) → Hid (Below w.heap.size w w') → wpList Tryz.prog ops Q rest (a.put o.dst (.slice (some ⟨w.heap.size, 0, none⟩) n n)) w') :
    wpList Tryz.prog ops Q (o :: rest) a w := by
  refine wpList_plain hg fun K hK' => ?_
  obtain ⟨i, hi, hz, hs, hb⟩ := info_parts Tryz.infoB
  have hrun := run_make (P := Tryz.prog) w 51 5 i (.int .u8 0) Tryz.underlying51 hi hz .i64 .i64 n n (by omega) (by omega) (by rw [hb]; omega) (by omega)
  subst hL
  subst hC
  rw [hs, Nat.mul_one, Int.toNat_natCast, madeCells_bytes] at hrun
  unfold Oper.wp
  simp [execOp, hop, hl, hc, hrun, Result.andThen]
  refine hK' _ _ (hK _ ?_ ((Below.refl _ _).alloc (Nat.le_refl _) _))
  unfold Hid RowB
  simpa [bs] using heap_alloc_new w _
/-- The table of the signs lies in its own block. -/
def Sg (w : World) : Prop := ∀ d : Nat, d < 36 → w.cell? ⟨0, d, none⟩ = some (.int .u8 (sgn d))
theorem Sg.pos {w : World} (h : Sg w) : 0 < w.heap.size := World.block_lt_of_cell? w _ (h 0 (by decide))
theorem Sg.now {w w' : World} (h : Sg w) (hb : Below w.heap.size w w') : Sg w' := fun d hd => (hb.cell (p := ⟨0, d, none⟩) h.pos).trans (h d hd)
theorem Sg.touch {w w' : World} {S : Nat → Prop} (h : Sg w) (ht : Touch S w w') (hS : ¬ S 0) : Sg w' := fun d hd => (ht.cell h.pos hS d).trans (h d hd)
theorem set_last {A X : List Int} {n : Nat} {s : Int} (h : A.length = n + 1) : (A ++ X).set n s = A.take n ++ (s :: X) := by
  have e : A = A.take n ++ A.drop n := (List.take_append_drop n A).symm
  have hd : (A.drop n).length = 1 := by simp [h]
  obtain ⟨y, hy⟩ : ∃ y, A.drop n = [y] := by
    match hA : A.drop n, hd with
    | [y], _ => exact ⟨y, rfl⟩
  have hl : (A.take n).length = n := by simp [h]
  conv => lhs; rw [e, hy, List.append_assoc, List.set_append_right _ _ (by omega), hl, Nat.sub_self]
  rfl
theorem digF_mod (B : Nat) (b n : Nat) : digF B b (n % B ^ b) = digF B b n := by
  have h := digF_split B 0 b n
  simpa [digF] using h.symm
theorem digF_next (B b n : Nat) : digF B (b + 1) n = n / B ^ b % B :: digF B b n := by
  rw [Nat.add_comm, digF_split B 1 b n, digF_mod]
  rfl
/-- A row of which m places from off on are written with the lowest digits of n, the last k places so far. -/
def part (L : List Int) (off m B n k : Nat) : List Int := L.take (off + (m - k)) ++ ((digF B k n).map sgn ++ L.drop (off + m))
theorem part_zero {L : List Int} {off m : Nat} (B n : Nat) : part L off m B n 0 = L := by simp [part, digF]
theorem part_len {L : List Int} {off m B n k : Nat} (h : off + m ≤ L.length) (hk : k ≤ m) : (part L off m B n k).length = L.length := by simp [part, digF_len]; omega
theorem part_step {L : List Int} {off m B n k : Nat} (h : off + m ≤ L.length) (hk : k < m) : (part L off m B n k).set (off + (m - (k + 1))) (sgn (n / B ^ k % B)) = part L off m B n (k + 1) := by
  unfold part
  rw [set_last (n := off + (m - (k + 1))) (by simp; omega), digF_next, List.map_cons, List.take_take, Nat.min_eq_left (by omega)]
  rfl
/-- All of them. -/
def wrote (L : List Int) (off m B n : Nat) : List Int := L.take off ++ ((digF B m n).map sgn ++ L.drop (off + m))
theorem part_all (L : List Int) (off m B n : Nat) : part L off m B n m = wrote L off m B n := by simp [part, wrote]
theorem wrote_len {L : List Int} {off m B n : Nat} (h : off + m ≤ L.length) : (wrote L off m B n).length = L.length := by rw [← part_all, part_len h (Nat.le_refl _)]
/-- Two halves, one behind the other. -/
theorem wrote_two {L : List Int} {off a b B n : Nat} (h : off + (a + b) ≤ L.length) : wrote (wrote L off a B (n / B ^ b)) (off + a) b B (n % B ^ b) = wrote L off (a + b) B n := by
  have l1 : (L.take off).length = off := by simp; omega
  have l2 : ((digF B a (n / B ^ b)).map sgn).length = a := by simp [digF_len]
  unfold wrote
  have e1 : (L.take off ++ ((digF B a (n / B ^ b)).map sgn ++ L.drop (off + a))).take (off + a) = L.take off ++ (digF B a (n / B ^ b)).map sgn := by
    rw [← List.append_assoc, List.take_append_of_le_length (by simp [digF_len]; omega), List.take_of_length_le (by simp [digF_len]; omega)]
  have e2 : (L.take off ++ ((digF B a (n / B ^ b)).map sgn ++ L.drop (off + a))).drop (off + a + b) = L.drop (off + (a + b)) := by
    rw [← List.append_assoc, List.drop_append, List.drop_of_length_le (by simp [digF_len]; omega), List.nil_append, List.length_append, l1, l2, List.drop_drop, show off + a + (off + a + b - (off + a)) = off + (a + b) by omega]
  rw [e1, e2, digF_split, List.map_append, List.append_assoc, List.append_assoc]
end Go.Proofs.YtiiemeigbnnlpaaGreatDoor

/- OpenT -/
namespace Go.Proofs.YtiiemeigbnnlpaaGreatDoor
open Go.ChangeShapes Go.WideShapes Go.ChangeAt Go.RowKit
set_option linter.unusedVariables false

set_option maxRecDepth 100000 in
theorem open_text {H : Type} {enc : TypeId × Value → H} {W : World} {r : Reach} {b0 base : Nat} {sp : Nat → Bool} {held : Bool} {v : Value} {d : DataW H} {p : List MemPlace}
    (hv : Value.okWide Tryz.prog W r b0 9 v) (h : DataW.Trod enc Tryz.prog W base sp held 9 v d p) : ∃ s : ByteArray, v = .string s ∧ d = .lit (.string s.data.toList) ∧ p = [] ∧ s.size ≤ maxLen := by
  obtain ⟨s, rfl⟩ := okWide_string Tryz.underlying9 hv
  obtain ⟨fuel, hf⟩ := h
  obtain ⟨s', h1, h2, h3⟩ := DataW.trod_string Tryz.underlying9 hf
  simp [Value.cells] at h1
  subst h1
  exact ⟨s, rfl, congrArg Prod.fst h2, congrArg Prod.snd h2, h3⟩
theorem text_bulk {H : Type} {s : ByteArray} (h : Rows.uptoBulk (.lit (.string s.data.toList) : DataW H) ≤ 1048576) : s.size ≤ 1048576 := by
  simp only [Rows.uptoBulk] at h
  have : s.data.toList.length = s.size := by simp
  omega
theorem byte_bounds {n : Int} (h : (Lit.int .u8 n).wf = true) : 0 ≤ n ∧ n ≤ 255 := by
  have h1 : IntKind.u8.min = 0 := rfl
  have h2 : IntKind.u8.max = 255 := rfl
  simp only [Lit.wf, Bool.and_eq_true, decide_eq_true_eq] at h
  omega
/-- The signs, as numbers. -/
abbrev signZ : List Int := (List.range 36).map sgn
theorem gSigns : Tryz.prog.globalNamed "trellis/radix.signs" = some 0 := by kernel_rfl
theorem gSignsType : (Tryz.prog.globals[0]?).map (·.type) = some 96 := by kernel_rfl
theorem cells36 : Tryz.prog.cellsOf 96 = 36 := by kernel_rfl
theorem cellsU8 : Tryz.prog.cellsOf 5 = 1 := by kernel_rfl
theorem tab_second {W : World} {x : String × DataW Unit} {rest : List (String × DataW Unit)} {zs : List Int} (h : laidMet Tryz.prog (x :: ("trellis/radix.signs", Lib.tabData .u8 zs) :: rest) W) : Lib.TabIs Tryz.prog W "trellis/radix.signs" .u8 zs := by
  obtain ⟨ps, ⟨_, _, _, _, _, _, _, _, _, _, ⟨g', t', cs, fuel, p, q, hg', ht', hvar, hd, _, _⟩, _⟩, _⟩ := h
  obtain rfl := Option.some.inj (gSigns.symm.trans hg')
  obtain rfl := Option.some.inj (gSignsType.symm.trans ht')
  unfold Lib.TabIs
  rw [hvar, ← Lib.cells_of_tab Tryz.underlying96 Tryz.underlying5 cellsU8 cells36 hd]
theorem signs_tab : (Rows.laid_trellis_radix_signs : DataW Unit) = Lib.tabData .u8 signZ := by rfl
theorem signs_sg {W : World} (h : Lib.TabIs Tryz.prog W "trellis/radix.signs" .u8 signZ) : Sg W := fun d hd => by
  rw [h.cell gSigns d (by simp [signZ]; exact hd)]
  simp [signZ, List.getD, hd]
theorem signs_of {W : World} (h : laidMetH Tryz.prog [("unicode/utf8.acceptRanges", Rows.laid_unicode_utf8_acceptRanges), ("trellis/radix.signs", Rows.laid_trellis_radix_signs), ("unicode/utf8.first", Rows.laid_unicode_utf8_first)] W) : Sg W := by
  have h1 : laidMet Tryz.prog [("unicode/utf8.acceptRanges", Rows.laid_unicode_utf8_acceptRanges), ("trellis/radix.signs", Rows.laid_trellis_radix_signs), ("unicode/utf8.first", Rows.laid_unicode_utf8_first)] W := h
  rw [signs_tab] at h1
  exact signs_sg (tab_second h1)
/-- The numbers of a datum. -/
def numsD : DataW Unit → List Value
  | .agg l => numsL l
  | .lit (.int k z) => [.int k z]
  | _ => []
where numsL : List (DataW Unit) → List Value
  | [] => []
  | d :: r => numsD d ++ numsL r
def putRow (h : Array Obj) (i : Nat) (l : List Value) : Array Obj := h.modify i fun
  | .cells _ t frozen => .cells l.toArray t frozen
  | o => o
/-- A world for the witness: the settled one, the three tables holding what their initialisers lay. -/
def laidWorld4 (P : Program) (os : Os) : World :=
  { World.holding P os ⟨#[], #[], []⟩ with heap := putRow (putRow (putRow (World.holding P os ⟨#[], #[], []⟩).heap 0 (numsD Rows.laid_trellis_radix_signs)) 3 (numsD Rows.laid_unicode_utf8_first)) 4 (numsD Rows.laid_unicode_utf8_acceptRanges) }
end Go.Proofs.YtiiemeigbnnlpaaGreatDoor

/- OpenO4 -/
namespace Go.Proofs.YtiiemeigbnnlpaaGreatDoor
open Go.ChangeShapes Go.WideShapes Go.ChangeAt Go.RowKit
set_option linter.unusedVariables false

theorem Tryz.cellsO4 : Tryz.prog.cellsOf 24 = 4 := by kernel_rfl
set_option maxRecDepth 100000 in
theorem open_op4 {H : Type} {enc : TypeId × Value → H} {W : World} {r : Reach} {b0 : Nat} {v : Value} {d : DataW H} {p : List MemPlace}
    (hv : Value.okWide Tryz.prog W r b0 24 v) (h0 : DataW.Trod enc Tryz.prog W 0 (fun _ => true) true 24 v d p) (hb : Rows.uptoBulk d ≤ 1048576) :
    ∃ k va s b xs, v = .agg #[.int .i64 k, va, .string s, .int .i64 b] ∧ Sl W.heap.size W va xs ∧ xs.length ≤ 1048576 ∧ s.size ≤ 1048576 ∧ -9223372036854775808 ≤ b ∧ b ≤ 9223372036854775807 := by
  obtain ⟨v0, v1, v2, v3, y0, y1, y2, y3, m, rfl, rfl, _, t0, t1, t2, t3⟩ := Joins.open_agg4 Tryz.underlying24 (by kernel_rfl) Tryz.cellsO4 hv h0
  simp only [Rows.uptoBulk, Rows.uptoBulkAll] at hb
  obtain ⟨k, e0, _, _⟩ := DataW.trod_int Tryz.underlying3 t0
  obtain ⟨n, e3, _, w3⟩ := DataW.trod_int Tryz.underlying3 t3
  obtain ⟨xs, sx, lx⟩ := open_words1 t1 (by omega)
  obtain ⟨st, e2, e2', _⟩ := DataW.trod_string Tryz.underlying9 t2
  simp only [List.cons.injEq, and_true] at e0 e2 e3
  subst e0 e2 e3
  have hst : st.size ≤ 1048576 := by
    have hb2 : Rows.uptoBulk y2.1 ≤ 1048576 := by omega
    rw [e2'] at hb2
    exact text_bulk hb2
  exact ⟨k, v1, st, n, xs, rfl, sx, lx, hst, (int_bounds w3).1, (int_bounds w3).2⟩
end Go.Proofs.YtiiemeigbnnlpaaGreatDoor
