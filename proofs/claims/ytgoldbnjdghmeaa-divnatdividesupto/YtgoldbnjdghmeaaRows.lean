/-
  No cell of these rows narrows 'for every input' (looked for: loops, veiled, ifaces, maps, wideKeys, modest, calm, conditions, laid).
  DERIVED. THE GIVEN ROWS OF THIS SEAT. 2 by the template 'for every input the law returns true; each argument reads behind the call as it read before'; 0 by the template 'total and deterministic' (their statements: YtgoldbnjdghmeaaTotals.lean).
  GIVEN WITH THE SEED: the statements are not yours to turn. If you find one false, say at which input.
  Laid BY PROGRAM, IN A SANDBOX (cutbox-rows.mjs): the forced cells as the released guide's own fill.sh prints them over the translation 7ef86d3b58e54932… (all of the seat's roots in one cut). By AI agents, Wed Nov 11 2026. No macro, syntax, notation, axiom, sorry.
-/
import Derived.Test.YtgoldbnjdghmeaaChecked
import GoSem.Claim
import GoSem.ClaimJoined
import GoSem.ClaimMapViews
import Derived.JoinedTies
import Derived.KernelRfl
namespace Go.Proofs.Ytgoldbnjdghmeaa
/- THE CELL 'sum', in the pinned program and in every row, IS THE sha256 OF THE DUMP (.gsa) THAT YtgoldbnjdghmeaaProg.lean LOADS. Nothing in Lean hashes anything: it is a label: what it is worth is what the hold of that sum in a sandbox is worth. -/
noncomputable def Try.pinned : Pinned := { name := "ytgoldbnjdghmeaa", sum := "7ef86d3b58e549329e893a63fe7870599b3014255a2b27b4cac10b1b6f3cf377", checked := Try.checked }
namespace Rows
def none {H : Type} : Left H := { results := [], args := [] }

/-- 'trellislaw03.DivnatBack': WHATEVER THE INPUT: true; the input reads as it did. -/
def divnatBackSpec : ChangeSpec := { name := "divnatBack", fn := fun _ => fun
  | [d1, d2, d3] => { results := [.lit (.bool true)], args := [d1, d2, d3] }
  | _ => none }
def divnatBackRow : OpenClaim := { program := "ytgoldbnjdghmeaa", sum := "7ef86d3b58e549329e893a63fe7870599b3014255a2b27b4cac10b1b6f3cf377", func := "trellis/trellislaw03.DivnatBack", spec := "divnatBack", inPlace := ["math/bits.Add64", "math/bits.Sub64"], named := ["math/bits.divideError", "math/bits.overflowError"], apart := false }
def DivnatBackSaid : Prop := divnatBackRow.holds Try.pinned (OpenSpec.ofChange divnatBackSpec)

/-- ITS FALSE NEIGHBOUR: 'it returns false'. Refute it at one input. -/
def divnatBackWrong : ChangeSpec := { name := "divnatBack", fn := fun _ => fun
  | [d1, d2, d3] => { results := [.lit (.bool false)], args := [d1, d2, d3] }
  | _ => none }
def DivnatBackWrongFalsely : Prop := divnatBackRow.holds Try.pinned (OpenSpec.ofChange divnatBackWrong)

/-- 'trellislaw03.DivnatDivides': WHATEVER THE INPUT: true; the input reads as it did. -/
def divnatDividesSpec : ChangeSpec := { name := "divnatDivides", fn := fun _ => fun
  | [d1, d2, d3] => { results := [.lit (.bool true)], args := [d1, d2, d3] }
  | _ => none }
def divnatDividesRow : OpenClaim := { program := "ytgoldbnjdghmeaa", sum := "7ef86d3b58e549329e893a63fe7870599b3014255a2b27b4cac10b1b6f3cf377", func := "trellis/trellislaw03.DivnatDivides", spec := "divnatDivides", inPlace := ["math/bits.Add64", "math/bits.Sub64"], recurses := true, named := ["math/bits.divideError", "math/bits.overflowError"], apart := false }
def DivnatDividesSaid : Prop := divnatDividesRow.holds Try.pinned (OpenSpec.ofChange divnatDividesSpec)

/-- ITS FALSE NEIGHBOUR: 'it returns false'. Refute it at one input. -/
def divnatDividesWrong : ChangeSpec := { name := "divnatDivides", fn := fun _ => fun
  | [d1, d2, d3] => { results := [.lit (.bool false)], args := [d1, d2, d3] }
  | _ => none }
def DivnatDividesWrongFalsely : Prop := divnatDividesRow.holds Try.pinned (OpenSpec.ofChange divnatDividesWrong)

/- THE SECOND FORM. 'bulk': how many values and letters a reading holds, each counted each time it is reached (what is shared counts as often as it is met; a slice's spare places count too). A statement '..UptoSaid' is the law's where the arguments, and the package variables that the reading takes, are together of bulk at most 1048576: NARROWER than '..Said'. Prove '..Said' where nothing that the law and all that it calls make is longer than what came in: it says more and counts as full. Else prove '..UptoSaid'. A law counts once. -/
mutual
def uptoBulk {H : Type} : DataW H → Nat
  | .lit (.string bytes) => bytes.length + 1
  | .lit _ => 1
  | .nil => 1
  | .ptr d => uptoBulk d + 1
  | .slice elems spare => uptoBulkAll elems + uptoBulkAll spare + 1
  | .agg parts => uptoBulkAll parts + 1
  | .iface _ d => uptoBulk d + 1
  | .map entries => uptoBulkEntries entries + 1
  | .held _ => 1
def uptoBulkAll {H : Type} : List (DataW H) → Nat
  | [] => 0
  | d :: r => uptoBulk d + uptoBulkAll r
def uptoBulkEntries {H : Type} : List (Lit × DataW H) → Nat
  | [] => 0
  | x :: r => uptoBulkEntry x + uptoBulkEntries r
def uptoBulkEntry {H : Type} : Lit × DataW H → Nat
  | (.string bytes, d) => bytes.length + uptoBulk d + 1
  | (_, d) => uptoBulk d + 1
 end
def uptoSmall : (H : Type) → List (DataW H) → Bool := fun _ ds => decide (uptoBulkAll ds ≤ 1048576)
def OpenSpec.upto (s : _root_.Go.ChangeSpec) : _root_.Go.OpenSpec := { _root_.Go.OpenSpec.ofChange s with cond := some uptoSmall }

/-- 'trellislaw03.DivnatBack', WHERE WHAT IT READS IS OF BULK AT MOST 1048576: true; the input reads as it did. -/
def divnatBackUptoRow : OpenClaim := { program := "ytgoldbnjdghmeaa", sum := "7ef86d3b58e549329e893a63fe7870599b3014255a2b27b4cac10b1b6f3cf377", func := "trellis/trellislaw03.DivnatBack", spec := "divnatBack", inPlace := ["math/bits.Add64", "math/bits.Sub64"], named := ["math/bits.divideError", "math/bits.overflowError"], apart := false, narrowed := true }
def DivnatBackUptoSaid : Prop := divnatBackUptoRow.holds Try.pinned (OpenSpec.upto divnatBackSpec)

/-- 'trellislaw03.DivnatDivides', WHERE WHAT IT READS IS OF BULK AT MOST 1048576: true; the input reads as it did. -/
def divnatDividesUptoRow : OpenClaim := { program := "ytgoldbnjdghmeaa", sum := "7ef86d3b58e549329e893a63fe7870599b3014255a2b27b4cac10b1b6f3cf377", func := "trellis/trellislaw03.DivnatDivides", spec := "divnatDivides", inPlace := ["math/bits.Add64", "math/bits.Sub64"], recurses := true, named := ["math/bits.divideError", "math/bits.overflowError"], apart := false, narrowed := true }
def DivnatDividesUptoSaid : Prop := divnatDividesUptoRow.holds Try.pinned (OpenSpec.upto divnatDividesSpec)

end Rows
end Go.Proofs.Ytgoldbnjdghmeaa
