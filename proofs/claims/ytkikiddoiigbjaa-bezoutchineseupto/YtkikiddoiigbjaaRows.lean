/-
  No cell of these rows narrows 'for every input' (looked for: loops, veiled, ifaces, maps, wideKeys, modest, calm, conditions, laid).
  DERIVED. THE GIVEN ROWS OF THIS SEAT. 2 by the template 'for every input the law returns true; each argument reads behind the call as it read before'; 0 by the template 'total and deterministic' (their statements: YtkikiddoiigbjaaTotals.lean).
  GIVEN WITH THE SEED: the statements are not yours to turn. If you find one false, say at which input.
  Laid BY PROGRAM, IN A SANDBOX (cutbox-rows.mjs): the forced cells as the released guide's own fill.sh prints them over the translation 48b3f5b5c246e4cb… (all of the seat's roots in one cut). By AI agents, Wed Nov 11 2026. No macro, syntax, notation, axiom, sorry.
-/
import Derived.Test.YtkikiddoiigbjaaChecked
import GoSem.Claim
import GoSem.ClaimJoined
import GoSem.ClaimMapViews
import Derived.JoinedTies
import Derived.KernelRfl
namespace Go.Proofs.Ytkikiddoiigbjaa
/- THE CELL 'sum', in the pinned program and in every row, IS THE sha256 OF THE DUMP (.gsa) THAT YtkikiddoiigbjaaProg.lean LOADS. Nothing in Lean hashes anything: it is a label: what it is worth is what the hold of that sum in a sandbox is worth. -/
noncomputable def Try.pinned : Pinned := { name := "ytkikiddoiigbjaa", sum := "48b3f5b5c246e4cbedf42de8716790cb0d39a5e655e7b915032dc11749f03e3d", checked := Try.checked }
namespace Rows
def none {H : Type} : Left H := { results := [], args := [] }

/-- 'trellislaw06.BezoutListed': WHATEVER THE INPUT: true; the input reads as it did. -/
def bezoutListedSpec : ChangeSpec := { name := "bezoutListed", fn := fun _ => fun
  | [d1, d2] => { results := [.lit (.bool true)], args := [d1, d2] }
  | _ => none }
def bezoutListedRow : OpenClaim := { program := "ytkikiddoiigbjaa", sum := "48b3f5b5c246e4cbedf42de8716790cb0d39a5e655e7b915032dc11749f03e3d", func := "trellis/trellislaw06.BezoutListed", spec := "bezoutListed", inPlace := ["math/bits.Add64", "math/bits.Sub64"], recurses := true, named := ["math/bits.divideError", "math/bits.overflowError"], apart := false }
def BezoutListedSaid : Prop := bezoutListedRow.holds Try.pinned (OpenSpec.ofChange bezoutListedSpec)

/-- ITS FALSE NEIGHBOUR: 'it returns false'. Refute it at one input. -/
def bezoutListedWrong : ChangeSpec := { name := "bezoutListed", fn := fun _ => fun
  | [d1, d2] => { results := [.lit (.bool false)], args := [d1, d2] }
  | _ => none }
def BezoutListedWrongFalsely : Prop := bezoutListedRow.holds Try.pinned (OpenSpec.ofChange bezoutListedWrong)

/-- 'trellislaw06.BezoutChinese': WHATEVER THE INPUT: true; the input reads as it did. -/
def bezoutChineseSpec : ChangeSpec := { name := "bezoutChinese", fn := fun _ => fun
  | [d1, d2, d3] => { results := [.lit (.bool true)], args := [d1, d2, d3] }
  | _ => none }
def bezoutChineseRow : OpenClaim := { program := "ytkikiddoiigbjaa", sum := "48b3f5b5c246e4cbedf42de8716790cb0d39a5e655e7b915032dc11749f03e3d", func := "trellis/trellislaw06.BezoutChinese", spec := "bezoutChinese", inPlace := ["math/bits.Add64", "math/bits.Sub64"], recurses := true, named := ["math/bits.divideError", "math/bits.overflowError"], apart := false }
def BezoutChineseSaid : Prop := bezoutChineseRow.holds Try.pinned (OpenSpec.ofChange bezoutChineseSpec)

/-- ITS FALSE NEIGHBOUR: 'it returns false'. Refute it at one input. -/
def bezoutChineseWrong : ChangeSpec := { name := "bezoutChinese", fn := fun _ => fun
  | [d1, d2, d3] => { results := [.lit (.bool false)], args := [d1, d2, d3] }
  | _ => none }
def BezoutChineseWrongFalsely : Prop := bezoutChineseRow.holds Try.pinned (OpenSpec.ofChange bezoutChineseWrong)

/- THE SECOND FORM. 'bulk': how many values and letters a reading holds, each counted each time it is reached (what is shared counts as often as it is met; a slice's spare places count too). A statement '..UptoSaid' is the law's where the arguments, and the package variables that the reading takes, are together of bulk at most 1048576: NARROWER than '..Said'. Prove '..Said' where nothing that the law and all that it calls make is longer than what came in: it says more and counts as full. Else prove '..UptoSaid'. A law counts once. -/
mutual
def uptoBulk {H : Type} : DataW H → Nat
  | .lit (.string bytes) => bytes.length + 1
  | .lit _ => 1
  | .nil => 1
  | .ptr d => uptoBulk d + 1
  | .slice elems spare => uptoBulkAll elems + uptoBulkAll spare + 1
  | .agg parts => uptoBulkAll parts + 1
  | .iface _ d => uptoBulk d + 1
  | .map entries => uptoBulkEntries entries + 1
  | .held _ => 1
def uptoBulkAll {H : Type} : List (DataW H) → Nat
  | [] => 0
  | d :: r => uptoBulk d + uptoBulkAll r
def uptoBulkEntries {H : Type} : List (Lit × DataW H) → Nat
  | [] => 0
  | x :: r => uptoBulkEntry x + uptoBulkEntries r
def uptoBulkEntry {H : Type} : Lit × DataW H → Nat
  | (.string bytes, d) => bytes.length + uptoBulk d + 1
  | (_, d) => uptoBulk d + 1
 end
def uptoSmall : (H : Type) → List (DataW H) → Bool := fun _ ds => decide (uptoBulkAll ds ≤ 1048576)
def OpenSpec.upto (s : _root_.Go.ChangeSpec) : _root_.Go.OpenSpec := { _root_.Go.OpenSpec.ofChange s with cond := some uptoSmall }

/-- 'trellislaw06.BezoutListed', WHERE WHAT IT READS IS OF BULK AT MOST 1048576: true; the input reads as it did. -/
def bezoutListedUptoRow : OpenClaim := { program := "ytkikiddoiigbjaa", sum := "48b3f5b5c246e4cbedf42de8716790cb0d39a5e655e7b915032dc11749f03e3d", func := "trellis/trellislaw06.BezoutListed", spec := "bezoutListed", inPlace := ["math/bits.Add64", "math/bits.Sub64"], recurses := true, named := ["math/bits.divideError", "math/bits.overflowError"], apart := false, narrowed := true }
def BezoutListedUptoSaid : Prop := bezoutListedUptoRow.holds Try.pinned (OpenSpec.upto bezoutListedSpec)

/-- 'trellislaw06.BezoutChinese', WHERE WHAT IT READS IS OF BULK AT MOST 1048576: true; the input reads as it did. -/
def bezoutChineseUptoRow : OpenClaim := { program := "ytkikiddoiigbjaa", sum := "48b3f5b5c246e4cbedf42de8716790cb0d39a5e655e7b915032dc11749f03e3d", func := "trellis/trellislaw06.BezoutChinese", spec := "bezoutChinese", inPlace := ["math/bits.Add64", "math/bits.Sub64"], recurses := true, named := ["math/bits.divideError", "math/bits.overflowError"], apart := false, narrowed := true }
def BezoutChineseUptoSaid : Prop := bezoutChineseUptoRow.holds Try.pinned (OpenSpec.upto bezoutChineseSpec)

end Rows
end Go.Proofs.Ytkikiddoiigbjaa
