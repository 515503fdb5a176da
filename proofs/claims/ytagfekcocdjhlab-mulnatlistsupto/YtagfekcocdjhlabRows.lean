/-
  No cell of these rows narrows 'for every input' (looked for: loops, veiled, ifaces, maps, wideKeys, modest, calm, conditions, laid).
  DERIVED. THE GIVEN ROWS OF THIS SEAT. 3 by the template 'for every input the law returns true; each argument reads behind the call as it read before'; 0 by the template 'total and deterministic' (their statements: YtagfekcocdjhlabTotals.lean).
  GIVEN WITH THE SEED: the statements are not yours to turn. If you find one false, say at which input.
  Laid BY PROGRAM, IN A SANDBOX (cutbox-rows.mjs): the forced cells as the released guide's own fill.sh prints them over the translation d88d1b29b865e33b… (all of the seat's roots in one cut). By AI agents, Wed Nov 11 2026. No macro, syntax, notation, axiom, sorry.
-/
import Derived.Test.YtagfekcocdjhlabChecked
import GoSem.Claim
import GoSem.ClaimJoined
import GoSem.ClaimMapViews
import Derived.JoinedTies
import Derived.KernelRfl
namespace Go.Proofs.Ytagfekcocdjhlab
/- THE CELL 'sum', in the pinned program and in every row, IS THE sha256 OF THE DUMP (.gsa) THAT YtagfekcocdjhlabProg.lean LOADS. Nothing in Lean hashes anything: it is a label: what it is worth is what the hold of that sum in a sandbox is worth. -/
noncomputable def Try.pinned : Pinned := { name := "ytagfekcocdjhlab", sum := "d88d1b29b865e33b604c71234eafda814fc6179699284a9684bfba521f35953d", checked := Try.checked }
namespace Rows
def none {H : Type} : Left H := { results := [], args := [] }

/-- 'trellislaw02.MulnatShifts': WHATEVER THE INPUT: true; the input reads as it did. -/
def mulnatShiftsSpec : ChangeSpec := { name := "mulnatShifts", fn := fun _ => fun
  | [d1, d2, d3] => { results := [.lit (.bool true)], args := [d1, d2, d3] }
  | _ => none }
def mulnatShiftsRow : OpenClaim := { program := "ytagfekcocdjhlab", sum := "d88d1b29b865e33b604c71234eafda814fc6179699284a9684bfba521f35953d", func := "trellis/trellislaw02.MulnatShifts", spec := "mulnatShifts", inPlace := ["math/bits.Add64", "math/bits.Sub64"], recurses := true, apart := false }
def MulnatShiftsSaid : Prop := mulnatShiftsRow.holds Try.pinned (OpenSpec.ofChange mulnatShiftsSpec)

/-- ITS FALSE NEIGHBOUR: 'it returns false'. Refute it at one input. -/
def mulnatShiftsWrong : ChangeSpec := { name := "mulnatShifts", fn := fun _ => fun
  | [d1, d2, d3] => { results := [.lit (.bool false)], args := [d1, d2, d3] }
  | _ => none }
def MulnatShiftsWrongFalsely : Prop := mulnatShiftsRow.holds Try.pinned (OpenSpec.ofChange mulnatShiftsWrong)

/-- 'trellislaw02.MulnatLists': WHATEVER THE INPUT: true; the input reads as it did. -/
def mulnatListsSpec : ChangeSpec := { name := "mulnatLists", fn := fun _ => fun
  | [d1, d2] => { results := [.lit (.bool true)], args := [d1, d2] }
  | _ => none }
def mulnatListsRow : OpenClaim := { program := "ytagfekcocdjhlab", sum := "d88d1b29b865e33b604c71234eafda814fc6179699284a9684bfba521f35953d", func := "trellis/trellislaw02.MulnatLists", spec := "mulnatLists", inPlace := ["math/bits.Add64", "math/bits.Sub64"], recurses := true, apart := false }
def MulnatListsSaid : Prop := mulnatListsRow.holds Try.pinned (OpenSpec.ofChange mulnatListsSpec)

/-- ITS FALSE NEIGHBOUR: 'it returns false'. Refute it at one input. -/
def mulnatListsWrong : ChangeSpec := { name := "mulnatLists", fn := fun _ => fun
  | [d1, d2] => { results := [.lit (.bool false)], args := [d1, d2] }
  | _ => none }
def MulnatListsWrongFalsely : Prop := mulnatListsRow.holds Try.pinned (OpenSpec.ofChange mulnatListsWrong)

/-- 'trellislaw02.MulnatLong': WHATEVER THE INPUT: true; the input reads as it did. -/
def mulnatLongSpec : ChangeSpec := { name := "mulnatLong", fn := fun _ => fun
  | [d1, d2] => { results := [.lit (.bool true)], args := [d1, d2] }
  | _ => none }
def mulnatLongRow : OpenClaim := { program := "ytagfekcocdjhlab", sum := "d88d1b29b865e33b604c71234eafda814fc6179699284a9684bfba521f35953d", func := "trellis/trellislaw02.MulnatLong", spec := "mulnatLong", inPlace := ["math/bits.Add64", "math/bits.Sub64"], recurses := true, apart := false }
def MulnatLongSaid : Prop := mulnatLongRow.holds Try.pinned (OpenSpec.ofChange mulnatLongSpec)

/-- ITS FALSE NEIGHBOUR: 'it returns false'. Refute it at one input. -/
def mulnatLongWrong : ChangeSpec := { name := "mulnatLong", fn := fun _ => fun
  | [d1, d2] => { results := [.lit (.bool false)], args := [d1, d2] }
  | _ => none }
def MulnatLongWrongFalsely : Prop := mulnatLongRow.holds Try.pinned (OpenSpec.ofChange mulnatLongWrong)

/- THE SECOND FORM. 'bulk': how many values and letters a reading holds, each counted each time it is reached (what is shared counts as often as it is met; a slice's spare places count too). A statement '..UptoSaid' is the law's where the arguments, and the package variables that the reading takes, are together of bulk at most 1048576: NARROWER than '..Said'. Prove '..Said' where nothing that the law and all that it calls make is longer than what came in: it says more and counts as full. Else prove '..UptoSaid'. A law counts once. -/
mutual
def uptoBulk {H : Type} : DataW H → Nat
  | .lit (.string bytes) => bytes.length + 1
  | .lit _ => 1
  | .nil => 1
  | .ptr d => uptoBulk d + 1
  | .slice elems spare => uptoBulkAll elems + uptoBulkAll spare + 1
  | .agg parts => uptoBulkAll parts + 1
  | .iface _ d => uptoBulk d + 1
  | .map entries => uptoBulkEntries entries + 1
  | .held _ => 1
def uptoBulkAll {H : Type} : List (DataW H) → Nat
  | [] => 0
  | d :: r => uptoBulk d + uptoBulkAll r
def uptoBulkEntries {H : Type} : List (Lit × DataW H) → Nat
  | [] => 0
  | x :: r => uptoBulkEntry x + uptoBulkEntries r
def uptoBulkEntry {H : Type} : Lit × DataW H → Nat
  | (.string bytes, d) => bytes.length + uptoBulk d + 1
  | (_, d) => uptoBulk d + 1
 end
def uptoSmall : (H : Type) → List (DataW H) → Bool := fun _ ds => decide (uptoBulkAll ds ≤ 1048576)
def OpenSpec.upto (s : _root_.Go.ChangeSpec) : _root_.Go.OpenSpec := { _root_.Go.OpenSpec.ofChange s with cond := some uptoSmall }

/-- 'trellislaw02.MulnatShifts', WHERE WHAT IT READS IS OF BULK AT MOST 1048576: true; the input reads as it did. -/
def mulnatShiftsUptoRow : OpenClaim := { program := "ytagfekcocdjhlab", sum := "d88d1b29b865e33b604c71234eafda814fc6179699284a9684bfba521f35953d", func := "trellis/trellislaw02.MulnatShifts", spec := "mulnatShifts", inPlace := ["math/bits.Add64", "math/bits.Sub64"], recurses := true, apart := false, narrowed := true }
def MulnatShiftsUptoSaid : Prop := mulnatShiftsUptoRow.holds Try.pinned (OpenSpec.upto mulnatShiftsSpec)

/-- 'trellislaw02.MulnatLists', WHERE WHAT IT READS IS OF BULK AT MOST 1048576: true; the input reads as it did. -/
def mulnatListsUptoRow : OpenClaim := { program := "ytagfekcocdjhlab", sum := "d88d1b29b865e33b604c71234eafda814fc6179699284a9684bfba521f35953d", func := "trellis/trellislaw02.MulnatLists", spec := "mulnatLists", inPlace := ["math/bits.Add64", "math/bits.Sub64"], recurses := true, apart := false, narrowed := true }
def MulnatListsUptoSaid : Prop := mulnatListsUptoRow.holds Try.pinned (OpenSpec.upto mulnatListsSpec)

/-- 'trellislaw02.MulnatLong', WHERE WHAT IT READS IS OF BULK AT MOST 1048576: true; the input reads as it did. -/
def mulnatLongUptoRow : OpenClaim := { program := "ytagfekcocdjhlab", sum := "d88d1b29b865e33b604c71234eafda814fc6179699284a9684bfba521f35953d", func := "trellis/trellislaw02.MulnatLong", spec := "mulnatLong", inPlace := ["math/bits.Add64", "math/bits.Sub64"], recurses := true, apart := false, narrowed := true }
def MulnatLongUptoSaid : Prop := mulnatLongUptoRow.holds Try.pinned (OpenSpec.upto mulnatLongSpec)

end Rows
end Go.Proofs.Ytagfekcocdjhlab
