/-
  CopiesToOpenOp6: Copies, OpenS0, OpenOp6, joined.
-/
import Derived.Test.YtnbjlpeclaieeaaToldL
import Derived.Test.YtnbjlpeclaieeaaOpenLToInts
import Derived.ChangeSame
import Derived.Lib.SmallJoins

/- Copies -/
namespace Go.Proofs.Ytnbjlpeclaieeaa
open Go.RowKit
set_option linter.unusedVariables false

/-- A step: its fields, and what they hold. -/
structure OpD where
  kind : Int
  va : Value
  xs : List Int
  vb : Value
  ys : List Int
  vc : Value
  zs : List Int
  n : Int
  vl : Value
  Xs : List (List Int)
/-- The fields hold what they should in the world w, and are small. -/
structure OpOk (w : World) (d : OpD) : Prop where
  sa : Sl w.heap.size w d.va d.xs
  fa : Formed d.va
  la : d.xs.length ≤ 1048576
  sb : Sl w.heap.size w d.vb d.ys
  fb : Formed d.vb
  lb : d.ys.length ≤ 1048576
  sc : Sl w.heap.size w d.vc d.zs
  fc : Formed d.vc
  lc : d.zs.length ≤ 1048576
  sl : Ls w.heap.size w d.vl d.Xs
  ll : d.Xs.length ≤ 1048576
  lt : tot d.Xs ≤ 1048576
  n0 : -9223372036854775808 ≤ d.n
  n1 : d.n ≤ 9223372036854775807
theorem OpOk.now {w w' : World} {d : OpD} (h : OpOk w d) (hb : Below w.heap.size w w') : OpOk w' d :=
  ⟨h.sa.now hb, h.fa, h.la, h.sb.now hb, h.fb, h.lb, h.sc.now hb, h.fc, h.lc, h.sl.now hb, h.ll, h.lt, h.n0, h.n1⟩
/-- What copied answers. -/
def Copies (w : World) (kind : Int) (xs ys zs : List Int) (n : Int) (Xs : List (List Int)) (e : Ending) (w' : World) : Prop :=
  ∃ va vb vc vl, e = .returned (.agg #[.int .i64 kind, va, vb, vc, .int .i64 n, vl]) ∧ Sl w'.heap.size w' va xs ∧ Formed va ∧ Sl w'.heap.size w' vb ys ∧ Formed vb ∧ Sl w'.heap.size w' vc zs ∧ Formed vc ∧ Ls w'.heap.size w' vl Xs ∧ Below w.heap.size w w'
/-- copied is right at every step. -/
def CopiedOk : Prop := ∀ (w : World) (d : OpD), OpOk w d → Calls Try.prog 6 #[.agg #[.int .i64 d.kind, d.va, d.vb, d.vc, .int .i64 d.n, d.vl]] w (Copies w d.kind d.xs d.ys d.zs d.n d.Xs)
theorem told_op {w : World} {d : OpD} (h : OpOk w d) : Calls Try.prog 5 #[.agg #[.int .i64 d.kind, d.va, d.vb, d.vc, .int .i64 d.n, d.vl]] w (AnsM w (opE d.kind d.n) (opV d.kind d.xs d.ys d.zs d.n d.Xs)) :=
  told_any h.sa h.sb h.sc h.sl h.la h.lb h.lc h.lt d.kind h.n0 h.n1
theorem asked_op {w : World} {d : OpD} (h : OpOk w d) : Calls Try.prog 8 #[.agg #[.int .i64 d.kind, d.va, d.vb, d.vc, .int .i64 d.n, d.vl]] w (AnsM w (opE d.kind d.n) (opV d.kind d.xs d.ys d.zs d.n d.Xs)) :=
  asked_any h.sa h.sb h.sc h.sl h.la h.lb h.lc h.lt d.kind h.n0 h.n1
/-- copied, as a step with new fields. -/
theorem copied_op (hcop : CopiedOk) {w : World} {d : OpD} (h : OpOk w d) : Calls Try.prog 6 #[.agg #[.int .i64 d.kind, d.va, d.vb, d.vc, .int .i64 d.n, d.vl]] w fun e w' =>
    ∃ aa ca ab cb ac cc al cl, e = .returned (.agg #[.int .i64 d.kind, .slice aa d.xs.length ca, .slice ab d.ys.length cb, .slice ac d.zs.length cc, .int .i64 d.n, .slice al d.Xs.length cl]) ∧
      OpOk w' ⟨d.kind, .slice aa d.xs.length ca, d.xs, .slice ab d.ys.length cb, d.ys, .slice ac d.zs.length cc, d.zs, d.n, .slice al d.Xs.length cl, d.Xs⟩ ∧ Below w.heap.size w w' :=
  (hcop w d h).mono fun e w' ⟨va, vb, vc, vl, h1, s1, f1, s2, f2, s3, f3, s4, hb⟩ => by
    obtain ⟨aa, ca, rfl⟩ : ∃ a c, va = .slice a d.xs.length c := by obtain ⟨_, a, c, e, _⟩ := s1; exact ⟨a, c, e⟩
    obtain ⟨ab, cb, rfl⟩ : ∃ a c, vb = .slice a d.ys.length c := by obtain ⟨_, a, c, e, _⟩ := s2; exact ⟨a, c, e⟩
    obtain ⟨ac, cc, rfl⟩ : ∃ a c, vc = .slice a d.zs.length c := by obtain ⟨_, a, c, e, _⟩ := s3; exact ⟨a, c, e⟩
    obtain ⟨al, cl, rfl⟩ : ∃ a c, vl = .slice a d.Xs.length c := by obtain ⟨a, c, e, _⟩ := s4; exact ⟨a, c, e⟩
    exact ⟨aa, ca, ab, cb, ac, cc, al, cl, h1, ⟨s1, f1, h.la, s2, f2, h.lb, s3, f3, h.lc, s4, h.ll, h.lt, h.n0, h.n1⟩, hb⟩
end Go.Proofs.Ytnbjlpeclaieeaa

/- OpenS0 -/
namespace Go.Proofs.Ytnbjlpeclaieeaa
open Go.ChangeShapes Go.WideShapes Go.ChangeAt Go.RowKit
set_option linter.unusedVariables false

theorem Try.cellsOp6 : Try.prog.cellsOf 25 = 6 := by kernel_rfl
theorem Try.cellsLl : Try.prog.cellsOf 23 = 1 := by kernel_rfl
theorem trod_struct6 {H : Type} {enc : TypeId × Value → H} {P : Program} {w : World} {base : Nat} {spare : Nat → Bool} {held : Bool} {t : TypeId} {f0 f1 f2 f3 f4 f5 : Field} {fuel : Nat} {cs : List Value} {x : DataW H × List MemPlace} (ht : P.underlying t = some (.struct #[f0, f1, f2, f3, f4, f5]))
    (h : DataW.trod enc P w base spare held fuel t cs = some x) :
    ∃ y0 y1 y2 y3 y4 y5 n, x.1 = .agg [y0.1, y1.1, y2.1, y3.1, y4.1, y5.1] ∧ cs.length = P.cellsOf t ∧ DataW.trod enc P w base spare held n f0.type ((cs.drop f0.offset).take (P.cellsOf f0.type)) = some y0 ∧ DataW.trod enc P w base spare held n f1.type ((cs.drop f1.offset).take (P.cellsOf f1.type)) = some y1 ∧
      DataW.trod enc P w base spare held n f2.type ((cs.drop f2.offset).take (P.cellsOf f2.type)) = some y2 ∧ DataW.trod enc P w base spare held n f3.type ((cs.drop f3.offset).take (P.cellsOf f3.type)) = some y3 ∧ DataW.trod enc P w base spare held n f4.type ((cs.drop f4.offset).take (P.cellsOf f4.type)) = some y4 ∧ DataW.trod enc P w base spare held n f5.type ((cs.drop f5.offset).take (P.cellsOf f5.type)) = some y5 := by
  obtain ⟨xs, n, _, rfl, hl, hlen, hf⟩ := DataW.trod_struct ht h
  match xs, hlen with
  | [y0, y1, y2, y3, y4, y5], _ => exact ⟨y0, y1, y2, y3, y4, y5, n, by simp, hl, by simpa using hf 0 f0 rfl, by simpa using hf 1 f1 rfl, by simpa using hf 2 f2 rfl, by simpa using hf 3 f3 rfl, by simpa using hf 4 f4 rfl, by simpa using hf 5 f5 rfl⟩
/-- One step, read. -/
theorem open_step6 {H : Type} {enc : TypeId × Value → H} {W : World} {fuel : Nat} {cs : List Value} {x : DataW H × List MemPlace}
    (hf : DataW.trod enc Try.prog W 0 (fun _ => true) true fuel 25 cs = some x) (hb : Rows.uptoBulk x.1 ≤ 1048576) :
    ∃ d : OpD, cs = [.int .i64 d.kind, d.va, d.vb, d.vc, .int .i64 d.n, d.vl] ∧ OpOk W d := by
  obtain ⟨y0, y1, y2, y3, y4, y5, n, hx, hl, t0, t1, t2, t3, t4, t5⟩ := trod_struct6 Try.underlying25 hf
  rw [Try.cellsOp6] at hl
  rw [hx] at hb
  simp only [Rows.uptoBulk, Rows.uptoBulkAll] at hb
  match cs, hl with
  | [c0, c1, c2, c3, c4, c5], _ =>
    simp only [Try.cellsI, Try.cellsSl, Try.cellsLl, List.drop_zero, List.drop_succ_cons, List.take_succ_cons, List.take_zero] at t0 t1 t2 t3 t4 t5
    obtain ⟨k, e0, _, _⟩ := DataW.trod_int Try.underlying3 t0
    obtain ⟨m, e4, _, w4⟩ := DataW.trod_int Try.underlying3 t4
    obtain ⟨xs, sx, lx, fx⟩ := open_words2 t1 (by omega)
    obtain ⟨ys, sy, ly, fy⟩ := open_words2 t2 (by omega)
    obtain ⟨zs, sz, lz, fz⟩ := open_words2 t3 (by omega)
    obtain ⟨Xs, sX, lX, fX⟩ := open_lists1 t5 (by omega)
    simp only [List.cons.injEq, and_true] at e0 e4
    subst e0 e4
    exact ⟨⟨k, c1, xs, c2, ys, c3, zs, m, c5, Xs⟩, rfl, ⟨sx, fx, lx, sy, fy, ly, sz, fz, lz, sX, by show Xs.length ≤ 1048576; omega, by show tot Xs ≤ 1048576; omega, (int_bounds w4).1, (int_bounds w4).2⟩⟩
end Go.Proofs.Ytnbjlpeclaieeaa

/- OpenOp6 -/
namespace Go.Proofs.Ytnbjlpeclaieeaa
open Go.ChangeShapes Go.WideShapes Go.ChangeAt Go.RowKit
set_option linter.unusedVariables false

theorem open_op6 {H : Type} {enc : TypeId × Value → H} {W : World} {r : Reach} {b0 : Nat} {v : Value} {d : DataW H} {p : List MemPlace}
    (hv : Value.okWide Try.prog W r b0 25 v) (h0 : DataW.Trod enc Try.prog W 0 (fun _ => true) true 25 v d p) (hb : Rows.uptoBulk d ≤ 1048576) :
    ∃ q : OpD, v = .agg #[.int .i64 q.kind, q.va, q.vb, q.vc, .int .i64 q.n, q.vl] ∧ OpOk W q := by
  obtain ⟨cs, rfl, hsz⟩ := okWide_struct Try.underlying25 hv
  obtain ⟨fuel, hf⟩ := h0
  obtain ⟨q, hc, hq⟩ := open_step6 hf hb
  refine ⟨q, ?_, hq⟩
  simp only [Value.cells] at hc
  congr 1
  apply Array.toList_inj.1
  exact hc
end Go.Proofs.Ytnbjlpeclaieeaa
