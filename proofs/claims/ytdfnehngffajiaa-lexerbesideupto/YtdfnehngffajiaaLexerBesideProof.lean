/-
  The row of LexerBeside up to the bound, proved.
-/
import Derived.JoinedCond
import Derived.Test.YtdfnehngffajiaaOpt25
import Derived.Test.YtdfnehngffajiaaOps25
import Derived.Test.YtdfnehngffajiaaBe25
namespace Go.Proofs.Ytdfnehngffajiaa
open Go.ChangeShapes Go.WideShapes Go.ChangeAt Go.RowKit
set_option linter.unusedVariables false

set_option maxRecDepth 100000 in
theorem lexerBeside_contract (H : Type) (enc : TypeId × Value → H) (W : World) (args : Array Value) (ds gs : List (DataW H)) (before : List MemPlace)
    (hval : ∀ (j : Nat) t v, Try.f4.params[j]? = some t → args[j]? = some v → ∃ b, Value.okWide Try.prog W .any b t v)
    (hW : DataW.Whole enc Try.prog Try.f4.params.toList Rows.lexerBesideSpec.vars false W args.toList ds gs before) (hk : Rows.uptoSmall H (ds ++ gs) = true) (hm : MaxL W) :
    Calls Try.prog 4 args W fun e W' => ∃ v, e = .returned v ∧ Rows.lexerBesideSpec.post enc Try.prog Try.f4 false true false false W args v W' := by
  have hW' := hW
  obtain ⟨p, q, hA0, hV, rfl, hfz, hnd⟩ := hW
  have hA : DataW.TrodAll enc Try.prog W 0 (fun _ => true) true Try.f4.params.toList args.toList ds p := hA0
  rw [Try.params4] at hA hval
  obtain ⟨v0, vs0, d0, ds0, p0, q0, hargs, rfl, rfl, h0, r0⟩ := trodAll_cons hA
  obtain ⟨v1, vs1, d1, ds1, p1, q1, rfl, rfl, rfl, h1, r1⟩ := trodAll_cons r0
  obtain ⟨v2, vs2, d2, ds2, p2, q2, rfl, rfl, rfl, h2, r2⟩ := trodAll_cons r1
  obtain ⟨rfl, rfl, rfl⟩ := trodAll_nil r2
  obtain rfl : args = #[v0, v1, v2] := by cases args; simp_all
  obtain ⟨rfl, rfl⟩ := trodVars_none hV
  have hbulk := of_decide_eq_true hk
  obtain ⟨b0, o0⟩ := hval 0 9 v0 rfl rfl
  obtain ⟨s0, rfl, rfl, rfl, m0⟩ := open_text o0 h0
  have l0 : s0.size ≤ 1048576 := text_bulk (Nat.le_trans (bulk_in (by simp)) hbulk)
  obtain ⟨b1, o1⟩ := hval 1 9 v1 rfl rfl
  obtain ⟨s1, rfl, rfl, rfl, m1⟩ := open_text o1 h1
  have l1 : s1.size ≤ 1048576 := text_bulk (Nat.le_trans (bulk_in (by simp)) hbulk)
  obtain ⟨b2, o2⟩ := hval 2 4 v2 rfl rfl
  obtain ⟨x2, rfl, rfl, rfl⟩ := open_bool Try.underlying4 o2 h2
  clear hA0
  refine (lexerBeside_any hm l0 l1).mono fun e W' ⟨he, bel⟩ => ?_
  subst he
  exact ⟨_, rfl, _, _, _, [], _, [], hW', trodAll_mk1 (shut_bool Try.underlying4 _), (trodAll_cons_mk (Go.ChangeMaps.shut_string Try.underlying9 m0) (trodAll_cons_mk (Go.ChangeMaps.shut_string Try.underlying9 m1) (trodAll_cons_mk (shut_bool Try.underlying4 x2) trodAll_mk0))), rfl, bel.frame _, fun h => by cases h⟩

set_option maxRecDepth 100000 in
theorem lexerBeside_lifted (os : Os) (started : os.Started) (H : Type) (enc : TypeId × Value → H) (F : Stop.Interp) :
    ReturnsInHanded {} Try.checked os 4 .any ((Rows.OpenSpec.upto Rows.lexerBesideSpec).pre6 enc Try.prog Try.f4 Rows.lexerBesideUptoRow.domain false) (((Rows.OpenSpec.upto Rows.lexerBesideSpec).at F).post enc Try.prog Try.f4 false true false false) := by
  refine returns_shaped25 (C := Try.checked) (s := Rows.OpenSpec.upto Rows.lexerBesideSpec) (k := Rows.uptoSmall) rfl Try.own started (by kernel_rfl) Try.func4
    (OpenSpec.witness (enc := enc) (C := Try.checked) (s := Rows.OpenSpec.upto Rows.lexerBesideSpec) (k := Rows.uptoSmall) rfl false ⟨#[], #[.string ⟨#[]⟩, .string ⟨#[]⟩, .bool false], []⟩ 8 (by kernel_rfl) (by kernel_rfl) (by kernel_rfl)
      (x := ([.lit (.string []), .lit (.string []), .lit (.bool false)], [], [])) (by kernel_rfl) rfl (by kernel_rfl)) ?_
  intro W args ds gs before hval hW hk hs
  exact lexerBeside_contract H enc W args ds gs before (fun j t v h1 h2 => by rcases hval j t v h1 h2 with q | q; exact ⟨_, q⟩; exact q) hW hk (MaxL.of hs)

theorem lexerBeside_upto : Rows.LexerBesideUptoSaid :=
  OpenClaim.holds_of_cond 4 Try.f4 rfl rfl rfl rfl rfl rfl rfl ⟨rfl, rfl, rfl, rfl, rfl⟩ rfl rfl rfl rfl rfl (by kernel_rfl) Try.func4 (by kernel_rfl)
    (of_decide_eq_true (by kernel_rfl)) (by unfold Func.isWrapper; first | (rw [if_pos (by decide +kernel)]; kernel_rfl) | (rw [if_neg (by decide +kernel)]; exact ⟨rfl, rfl⟩))
    (fun os started H enc _ F => lexerBeside_lifted os started H enc F)
#print axioms lexerBeside_upto
end Go.Proofs.Ytdfnehngffajiaa
