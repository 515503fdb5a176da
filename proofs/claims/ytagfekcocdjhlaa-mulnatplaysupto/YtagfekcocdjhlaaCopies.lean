/-
  Copies: a step's data; what copied answers.
-/
import Derived.Test.YtagfekcocdjhlaaToldL
namespace Go.Proofs.Ytagfekcocdjhlaa
open Go.RowKit
set_option linter.unusedVariables false

/-- A step: its fields, and what they hold. -/
structure OpD where
  kind : Int
  va : Value
  xs : List Int
  vb : Value
  ys : List Int
  vc : Value
  zs : List Int
  n : Int
  vl : Value
  Xs : List (List Int)
/-- The fields hold what they should in the world w, and are small. -/
structure OpOk (w : World) (d : OpD) : Prop where
  sa : Sl w.heap.size w d.va d.xs
  fa : Formed d.va
  la : d.xs.length ≤ 1048576
  sb : Sl w.heap.size w d.vb d.ys
  fb : Formed d.vb
  lb : d.ys.length ≤ 1048576
  sc : Sl w.heap.size w d.vc d.zs
  fc : Formed d.vc
  lc : d.zs.length ≤ 1048576
  sl : Ls w.heap.size w d.vl d.Xs
  ll : d.Xs.length ≤ 1048576
  lt : tot d.Xs ≤ 1048576
  n0 : -9223372036854775808 ≤ d.n
  n1 : d.n ≤ 9223372036854775807
theorem OpOk.now {w w' : World} {d : OpD} (h : OpOk w d) (hb : Below w.heap.size w w') : OpOk w' d :=
  ⟨h.sa.now hb, h.fa, h.la, h.sb.now hb, h.fb, h.lb, h.sc.now hb, h.fc, h.lc, h.sl.now hb, h.ll, h.lt, h.n0, h.n1⟩
/-- What copied answers. -/
def Copies (w : World) (kind : Int) (xs ys zs : List Int) (n : Int) (Xs : List (List Int)) (e : Ending) (w' : World) : Prop :=
  ∃ va vb vc vl, e = .returned (.agg #[.int .i64 kind, va, vb, vc, .int .i64 n, vl]) ∧ Sl w'.heap.size w' va xs ∧ Formed va ∧ Sl w'.heap.size w' vb ys ∧ Formed vb ∧ Sl w'.heap.size w' vc zs ∧ Formed vc ∧ Ls w'.heap.size w' vl Xs ∧ Below w.heap.size w w'
/-- copied is right at every step. -/
def CopiedOk : Prop := ∀ (w : World) (d : OpD), OpOk w d → Calls Try.prog 8 #[.agg #[.int .i64 d.kind, d.va, d.vb, d.vc, .int .i64 d.n, d.vl]] w (Copies w d.kind d.xs d.ys d.zs d.n d.Xs)
theorem told_op {w : World} {d : OpD} (h : OpOk w d) : Calls Try.prog 9 #[.agg #[.int .i64 d.kind, d.va, d.vb, d.vc, .int .i64 d.n, d.vl]] w (AnsM w (opE d.kind d.n) (opV d.kind d.xs d.ys d.zs d.n d.Xs)) :=
  told_any h.sa h.sb h.sc h.sl h.la h.lb h.lc h.lt d.kind h.n0 h.n1
theorem asked_op {w : World} {d : OpD} (h : OpOk w d) : Calls Try.prog 10 #[.agg #[.int .i64 d.kind, d.va, d.vb, d.vc, .int .i64 d.n, d.vl]] w (AnsM w (opE d.kind d.n) (opV d.kind d.xs d.ys d.zs d.n d.Xs)) :=
  asked_any h.sa h.sb h.sc h.sl h.la h.lb h.lc h.lt d.kind h.n0 h.n1
/-- copied, as a step with new fields. -/
theorem copied_op (hcop : CopiedOk) {w : World} {d : OpD} (h : OpOk w d) : Calls Try.prog 8 #[.agg #[.int .i64 d.kind, d.va, d.vb, d.vc, .int .i64 d.n, d.vl]] w fun e w' =>
    ∃ aa ca ab cb ac cc al cl, e = .returned (.agg #[.int .i64 d.kind, .slice aa d.xs.length ca, .slice ab d.ys.length cb, .slice ac d.zs.length cc, .int .i64 d.n, .slice al d.Xs.length cl]) ∧
      OpOk w' ⟨d.kind, .slice aa d.xs.length ca, d.xs, .slice ab d.ys.length cb, d.ys, .slice ac d.zs.length cc, d.zs, d.n, .slice al d.Xs.length cl, d.Xs⟩ ∧ Below w.heap.size w w' :=
  (hcop w d h).mono fun e w' ⟨va, vb, vc, vl, h1, s1, f1, s2, f2, s3, f3, s4, hb⟩ => by
    obtain ⟨aa, ca, rfl⟩ : ∃ a c, va = .slice a d.xs.length c := by obtain ⟨_, a, c, e, _⟩ := s1; exact ⟨a, c, e⟩
    obtain ⟨ab, cb, rfl⟩ : ∃ a c, vb = .slice a d.ys.length c := by obtain ⟨_, a, c, e, _⟩ := s2; exact ⟨a, c, e⟩
    obtain ⟨ac, cc, rfl⟩ : ∃ a c, vc = .slice a d.zs.length c := by obtain ⟨_, a, c, e, _⟩ := s3; exact ⟨a, c, e⟩
    obtain ⟨al, cl, rfl⟩ : ∃ a c, vl = .slice a d.Xs.length c := by obtain ⟨a, c, e, _⟩ := s4; exact ⟨a, c, e⟩
    exact ⟨aa, ca, ab, cb, ac, cc, al, cl, h1, ⟨s1, f1, h.la, s2, f2, h.lb, s3, f3, h.lc, s4, h.ll, h.lt, h.n0, h.n1⟩, hb⟩
end Go.Proofs.Ytagfekcocdjhlaa
