/-
  Apart: a book of lists of words alone.
-/
import Derived.Test.YtnbjlpeclaieeaaBook
namespace Go.Proofs.Ytnbjlpeclaieeaa
open Go.RowKit

theorem Try.infoII : (Try.prog.info? 57).map (fun i => (i.zero, i.size, i.bytes)) = some (some (.slice none 0 0), 1, 24) := by kernel_rfl
theorem Try.infoNN : (Try.prog.info? 49).map (fun i => (i.zero, i.size, i.bytes)) = some (some (.slice none 0 0), 1, 24) := by kernel_rfl
theorem wpList_make_none (w : World) {ops : Array Oper} {rest : List Oper} {o : Oper} {a : Act} {Q : Exit → Act → World → Prop} (t e : TypeId)
    (ht : Try.prog.underlying t = some (.slice e)) (hin : (Try.prog.info? e).map (fun i => (i.zero, i.size, i.bytes)) = some (some (.slice none 0 0), 1, 24))
    (hg : o.guard = none) (l c : Operand) (hop : o.op = Op.makeSlice t l c)
    (hl : a.eval l = .int .i64 0) (hc : a.eval c = .int .i64 0)
    (hK : ∀ w', Below w.heap.size w w' → wpList Try.prog ops Q rest (a.put o.dst (.slice (some ⟨w.heap.size, 0, none⟩) 0 0)) w') :
    wpList Try.prog ops Q (o :: rest) a w := by
  refine wpList_plain hg fun K hK' => ?_
  obtain ⟨i, hi, hz, hs, hb⟩ := info_parts hin
  have hrun := run_make (P := Try.prog) w t e i (.slice none 0 0) ht hi hz .i64 .i64 0 0 (by omega) (by omega) (by rw [hb]; omega) (by omega)
  unfold Oper.wp
  simp [execOp, hop, hl, hc, hrun, Result.andThen]
  exact hK' _ _ (hK _ ((Below.refl _ _).alloc (Nat.le_refl _) _))

set_option maxRecDepth 100000 in
set_option maxHeartbeats 1600000 in
theorem ints_none {w : World} {bb : Nat} (hc : w.cell? ⟨bb, 1, none⟩ = some (.slice none 0 0)) (hlt : bb < w.heap.size) :
    Calls Try.prog 30 #[.pointer (some ⟨bb, 0, none⟩)] w fun e w' => e = .returned (.bool true) ∧ Below w.heap.size w w' := by
  go_enter Try.func30, Try.ntmps30
  go_wp2_with fail
  go_loopw [3] (fun i wr => i = .int .i64 0 ∧ wr = w) (fun _ _ => 0)
  case atStart => exact ⟨rfl, rfl⟩
  case round =>
    obtain ⟨rfl, rfl⟩ := hrel
    go_wp2_with (at_make; refine wpList_make_none _ 36 57 Try.underlying36 Try.infoII rfl _ _ rfl rfl rfl ?_)
    intro w2 hb2
    have hc2 := (hb2.cell (p := ⟨bb, 1, none⟩) hlt).trans hc
    have HB2 := hid hb2
    clear hc hb2
    go_wp2_with fail
    go_loopw [7] (fun i wr => i = .int .i64 0 ∧ wr = w2) (fun _ _ => 0)
    case atStart => exact ⟨rfl, rfl⟩
    case round =>
      obtain ⟨rfl, rfl⟩ := hrel
      go_wp2_with fail
      rename World => wq
      go_loopw [10] (fun i wr => i = .int .i64 0 ∧ wr = wq) (fun _ _ => 0)
      case atStart => exact ⟨rfl, rfl⟩
      case round =>
        obtain ⟨rfl, rfl⟩ := hrel
        go_wp2
        go_ret
        exact ⟨rfl, HB2.out⟩

set_option maxRecDepth 100000 in
set_option maxHeartbeats 1600000 in
theorem nums_none {w : World} {bb : Nat} (hc : w.cell? ⟨bb, 2, none⟩ = some (.slice none 0 0)) (hlt : bb < w.heap.size) :
    Calls Try.prog 31 #[.pointer (some ⟨bb, 0, none⟩)] w fun e w' => e = .returned (.bool true) ∧ Below w.heap.size w w' := by
  go_enter Try.func31, Try.ntmps31
  go_wp2_with fail
  go_loopw [3] (fun i wr => i = .int .i64 0 ∧ wr = w) (fun _ _ => 0)
  case atStart => exact ⟨rfl, rfl⟩
  case round =>
    obtain ⟨rfl, rfl⟩ := hrel
    go_wp2_with (at_make; refine wpList_make_none _ 37 49 Try.underlying37 Try.infoNN rfl _ _ rfl rfl rfl ?_)
    intro w2 hb2
    have hc2 := (hb2.cell (p := ⟨bb, 2, none⟩) hlt).trans hc
    have HB2 := hid hb2
    clear hc hb2
    go_wp2_with fail
    go_loopw [7] (fun i wr => i = .int .i64 0 ∧ wr = w2) (fun _ _ => 0)
    case atStart => exact ⟨rfl, rfl⟩
    case round =>
      obtain ⟨rfl, rfl⟩ := hrel
      go_wp2_with fail
      rename World => wq
      go_loopw [10] (fun i wr => i = .int .i64 0 ∧ wr = wq) (fun _ _ => 0)
      case atStart => exact ⟨rfl, rfl⟩
      case round =>
        obtain ⟨rfl, rfl⟩ := hrel
        go_wp2
        go_ret
        exact ⟨rfl, HB2.out⟩

theorem apart_yes {w : World} {bb gb n : Nat} {U : Nat → Value} {L : Nat → Nat} (hB : Bk w bb gb n U L) (h1 : w.cell? ⟨bb, 1, none⟩ = some (.slice none 0 0)) (h2 : w.cell? ⟨bb, 2, none⟩ = some (.slice none 0 0)) :
    Calls Try.prog 13 #[.pointer (some ⟨bb, 0, none⟩)] w fun e w' => e = .returned (.bool true) ∧ Touch (Blk n U) w w' := by
  have HB := hid hB
  have HC := hid h1
  have HD := hid h2
  clear hB h1 h2
  go_enter Try.func13, Try.ntmps13
  go_wp2_with fail
  refine (words_yes HB.out).mono ?_
  rintro e w1 ⟨rfl, t1⟩
  have T1 := hid t1
  clear t1
  go_wp2_with fail
  refine (ints_none ((T1.out.cell HB.out.bb_lt HB.out.bb_free 1).trans HC.out) (Nat.lt_of_lt_of_le HB.out.bb_lt T1.out.size)).mono ?_
  rintro e w2 ⟨rfl, t2⟩
  have T2 := hid (T1.out.trans (.ofBelow t2))
  clear t2
  go_wp2_with fail
  refine (nums_none ((T2.out.cell HB.out.bb_lt HB.out.bb_free 2).trans HD.out) (Nat.lt_of_lt_of_le HB.out.bb_lt T2.out.size)).mono ?_
  rintro e w3 ⟨rfl, t3⟩
  have T3 := hid (T2.out.trans (.ofBelow t3))
  clear t3
  go_wp2
  go_ret
  exact ⟨rfl, T3.out⟩
end Go.Proofs.Ytnbjlpeclaieeaa
