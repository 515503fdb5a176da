/-
  OpenOp: one step that came in by value, small in bulk.
-/
import Derived.Test.YtagfekcocdjhlaaDoorBulk
import Derived.Test.YtagfekcocdjhlaaDoorInts
import Derived.Lib.SmallJoins
namespace Go.Proofs.YtagfekcocdjhlaaDoor
open Go.ChangeShapes Go.WideShapes Go.ChangeAt Go.RowKit
set_option linter.unusedVariables false

theorem Tryd.cellsO : Tryd.prog.cellsOf 24 = 4 := by kernel_rfl
theorem open_op {H : Type} {enc : TypeId × Value → H} {W : World} {r : Reach} {b0 : Nat} {v : Value} {d : DataW H} {p : List MemPlace}
    (hv : Value.okWide Tryd.prog W r b0 24 v) (h0 : DataW.Trod enc Tryd.prog W 0 (fun _ => true) true 24 v d p) (hb : Rows.uptoBulk d ≤ 1048576) :
    ∃ k va vb n xs ys, v = .agg #[.int .i64 k, va, vb, .int .i64 n] ∧ Sl W.heap.size W va xs ∧ xs.length ≤ 1048576 ∧ Sl W.heap.size W vb ys ∧ ys.length ≤ 1048576 ∧ -9223372036854775808 ≤ n ∧ n ≤ 9223372036854775807 := by
  obtain ⟨v0, v1, v2, v3, y0, y1, y2, y3, m, rfl, rfl, _, t0, t1, t2, t3⟩ := Joins.open_agg4 Tryd.underlying24 (by kernel_rfl) Tryd.cellsO hv h0
  simp only [Rows.uptoBulk, Rows.uptoBulkAll] at hb
  obtain ⟨k, e0, _, _⟩ := DataW.trod_int Tryd.underlying3 t0
  obtain ⟨n, e3, _, w3⟩ := DataW.trod_int Tryd.underlying3 t3
  obtain ⟨xs, sx, lx⟩ := open_words1 t1 (by omega)
  obtain ⟨ys, sy, ly⟩ := open_words1 t2 (by omega)
  simp only [List.cons.injEq, and_true] at e0 e3
  subst e0 e3
  exact ⟨k, v1, v2, n, xs, ys, rfl, sx, lx, sy, ly, (int_bounds w3).1, (int_bounds w3).2⟩
end Go.Proofs.YtagfekcocdjhlaaDoor
