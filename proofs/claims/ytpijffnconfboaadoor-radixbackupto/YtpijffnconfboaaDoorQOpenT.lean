/-
  OpenT: texts and bytes that came in; the listed tables of layer 4.
-/
import Derived.Test.YtpijffnconfboaaDoorRows
import Derived.Test.YtpijffnconfboaaDoorQOpenToInts
import Derived.Test.YtpijffnconfboaaDoorQByteRow
import Derived.Lib.LaidTab
import Derived.ShutString
import Derived.ChangeMaps5
namespace Go.Proofs.YtpijffnconfboaaDoor
open Go.ChangeShapes Go.WideShapes Go.ChangeAt Go.RowKit
set_option linter.unusedVariables false

set_option maxRecDepth 100000 in
theorem open_text {H : Type} {enc : TypeId × Value → H} {W : World} {r : Reach} {b0 base : Nat} {sp : Nat → Bool} {held : Bool} {v : Value} {d : DataW H} {p : List MemPlace}
    (hv : Value.okWide Tryd.prog W r b0 9 v) (h : DataW.Trod enc Tryd.prog W base sp held 9 v d p) : ∃ s : ByteArray, v = .string s ∧ d = .lit (.string s.data.toList) ∧ p = [] ∧ s.size ≤ maxLen := by
  obtain ⟨s, rfl⟩ := okWide_string Tryd.underlying9 hv
  obtain ⟨fuel, hf⟩ := h
  obtain ⟨s', h1, h2, h3⟩ := DataW.trod_string Tryd.underlying9 hf
  simp [Value.cells] at h1
  subst h1
  exact ⟨s, rfl, congrArg Prod.fst h2, congrArg Prod.snd h2, h3⟩
theorem text_bulk {H : Type} {s : ByteArray} (h : Rows.uptoBulk (.lit (.string s.data.toList) : DataW H) ≤ 1048576) : s.size ≤ 1048576 := by
  simp only [Rows.uptoBulk] at h
  have : s.data.toList.length = s.size := by simp
  omega
theorem byte_bounds {n : Int} (h : (Lit.int .u8 n).wf = true) : 0 ≤ n ∧ n ≤ 255 := by
  have h1 : IntKind.u8.min = 0 := rfl
  have h2 : IntKind.u8.max = 255 := rfl
  simp only [Lit.wf, Bool.and_eq_true, decide_eq_true_eq] at h
  omega
/-- The signs, as numbers. -/
abbrev signZ : List Int := (List.range 36).map sgn
theorem gSigns : Tryd.prog.globalNamed "trellis/radix.signs" = some 0 := by kernel_rfl
theorem gSignsType : (Tryd.prog.globals[0]?).map (·.type) = some 86 := by kernel_rfl
theorem cells36 : Tryd.prog.cellsOf 86 = 36 := by kernel_rfl
theorem cellsU8 : Tryd.prog.cellsOf 5 = 1 := by kernel_rfl
theorem tab_second {W : World} {x : String × DataW Unit} {rest : List (String × DataW Unit)} {zs : List Int} (h : laidMet Tryd.prog (x :: ("trellis/radix.signs", Lib.tabData .u8 zs) :: rest) W) : Lib.TabIs Tryd.prog W "trellis/radix.signs" .u8 zs := by
  obtain ⟨ps, ⟨_, _, _, _, _, _, _, _, _, _, ⟨g', t', cs, fuel, p, q, hg', ht', hvar, hd, _, _⟩, _⟩, _⟩ := h
  obtain rfl := Option.some.inj (gSigns.symm.trans hg')
  obtain rfl := Option.some.inj (gSignsType.symm.trans ht')
  unfold Lib.TabIs
  rw [hvar, ← Lib.cells_of_tab Tryd.underlying86 Tryd.underlying5 cellsU8 cells36 hd]
theorem signs_tab : (Rows.laid_trellis_radix_signs : DataW Unit) = Lib.tabData .u8 signZ := by rfl
theorem signs_sg {W : World} (h : Lib.TabIs Tryd.prog W "trellis/radix.signs" .u8 signZ) : Sg W := fun d hd => by
  rw [h.cell gSigns d (by simp [signZ]; exact hd)]
  simp [signZ, List.getD, hd]
theorem signs_of {W : World} (h : laidMetH Tryd.prog [("unicode/utf8.acceptRanges", Rows.laid_unicode_utf8_acceptRanges), ("trellis/radix.signs", Rows.laid_trellis_radix_signs), ("unicode/utf8.first", Rows.laid_unicode_utf8_first)] W) : Sg W := by
  have h1 : laidMet Tryd.prog [("unicode/utf8.acceptRanges", Rows.laid_unicode_utf8_acceptRanges), ("trellis/radix.signs", Rows.laid_trellis_radix_signs), ("unicode/utf8.first", Rows.laid_unicode_utf8_first)] W := h
  rw [signs_tab] at h1
  exact signs_sg (tab_second h1)
/-- The numbers of a datum. -/
def numsD : DataW Unit → List Value
  | .agg l => numsL l
  | .lit (.int k z) => [.int k z]
  | _ => []
where numsL : List (DataW Unit) → List Value
  | [] => []
  | d :: r => numsD d ++ numsL r
def putRow (h : Array Obj) (i : Nat) (l : List Value) : Array Obj := h.modify i fun
  | .cells _ t frozen => .cells l.toArray t frozen
  | o => o
/-- A world for the witness: the settled one, the three tables holding what their initialisers lay. -/
def laidWorld4 (P : Program) (os : Os) : World :=
  { World.holding P os ⟨#[], #[], []⟩ with heap := putRow (putRow (putRow (World.holding P os ⟨#[], #[], []⟩).heap 0 (numsD Rows.laid_trellis_radix_signs)) 3 (numsD Rows.laid_unicode_utf8_first)) 4 (numsD Rows.laid_unicode_utf8_acceptRanges) }
end Go.Proofs.YtpijffnconfboaaDoor
