/-
  No cell of these rows narrows 'for every input' (looked for: loops, veiled, ifaces, maps, wideKeys, modest, calm, conditions, laid).
  DERIVED. THE GIVEN ROWS OF THIS SEAT. 3 by the template 'for every input the law returns true; each argument reads behind the call as it read before'; 0 by the template 'total and deterministic' (their statements: YtbcgggadelnaaaaGreatTotals.lean).
  GIVEN WITH THE SEED: the statements are not yours to turn. If you find one false, say at which input.
  Laid BY PROGRAM, IN A SANDBOX (cutbox-rows.mjs): the forced cells as the released guide's own fill.sh prints them over the translation 218007c354518800… (all of the seat's roots in one cut). By AI agents, Wed Nov 11 2026. No macro, syntax, notation, axiom, sorry.
-/
import Derived.Test.YtbcgggadelnaaaaGreatChecked
import GoSem.Claim
import GoSem.ClaimJoined
import GoSem.ClaimMapViews
import Derived.JoinedTies
import Derived.KernelRfl
namespace Go.Proofs.YtbcgggadelnaaaaGreat
/- THE CELL 'sum', in the pinned program and in every row, IS THE sha256 OF THE DUMP (.gsa) THAT YtbcgggadelnaaaaGreatProg.lean LOADS. Nothing in Lean hashes anything: it is a label: what it is worth is what the hold of that sum in a sandbox is worth. -/
noncomputable def Tryz.pinned : Pinned := { name := "ytbcgggadelnaaaagreat", sum := "218007c354518800b4e3c3cd7bb6c2f51c9617d7377ad465caa23f350e8f0bec", checked := Tryz.checked }
namespace Rows
def none {H : Type} : Left H := { results := [], args := [] }

/-- 'trellistop.WholeHermite': WHATEVER THE INPUT: true; the input reads as it did. -/
def wholeHermiteSpec : ChangeSpec := { name := "wholeHermite", fn := fun _ => fun
  | [d] => { results := [.lit (.bool true)], args := [d] }
  | _ => none }
def wholeHermiteRow : OpenClaim := { program := "ytbcgggadelnaaaagreat", sum := "218007c354518800b4e3c3cd7bb6c2f51c9617d7377ad465caa23f350e8f0bec", func := "trellis/trellistop.WholeHermite", spec := "wholeHermite", inPlace := ["math/bits.Add64", "math/bits.Sub64", "slices.overlaps[trellis/hnf.step]"], unfollowed := true, recurses := true, named := ["math/bits.divideError", "math/bits.overflowError"], apart := false }
def WholeHermiteSaid : Prop := wholeHermiteRow.holds Tryz.pinned (OpenSpec.ofChange wholeHermiteSpec)

/-- ITS FALSE NEIGHBOUR: 'it returns false'. Refute it at one input. -/
def wholeHermiteWrong : ChangeSpec := { name := "wholeHermite", fn := fun _ => fun
  | [d] => { results := [.lit (.bool false)], args := [d] }
  | _ => none }
def WholeHermiteWrongFalsely : Prop := wholeHermiteRow.holds Tryz.pinned (OpenSpec.ofChange wholeHermiteWrong)

/-- 'trellistop.WholeOneHermite': WHATEVER THE INPUT: true; the input reads as it did. -/
def wholeOneHermiteSpec : ChangeSpec := { name := "wholeOneHermite", fn := fun _ => fun
  | [d1, d2] => { results := [.lit (.bool true)], args := [d1, d2] }
  | _ => none }
def wholeOneHermiteRow : OpenClaim := { program := "ytbcgggadelnaaaagreat", sum := "218007c354518800b4e3c3cd7bb6c2f51c9617d7377ad465caa23f350e8f0bec", func := "trellis/trellistop.WholeOneHermite", spec := "wholeOneHermite", inPlace := ["math/bits.Add64", "math/bits.Sub64", "slices.overlaps[trellis/hnf.step]"], unfollowed := true, recurses := true, named := ["math/bits.divideError", "math/bits.overflowError"], apart := false }
def WholeOneHermiteSaid : Prop := wholeOneHermiteRow.holds Tryz.pinned (OpenSpec.ofChange wholeOneHermiteSpec)

/-- ITS FALSE NEIGHBOUR: 'it returns false'. Refute it at one input. -/
def wholeOneHermiteWrong : ChangeSpec := { name := "wholeOneHermite", fn := fun _ => fun
  | [d1, d2] => { results := [.lit (.bool false)], args := [d1, d2] }
  | _ => none }
def WholeOneHermiteWrongFalsely : Prop := wholeOneHermiteRow.holds Tryz.pinned (OpenSpec.ofChange wholeOneHermiteWrong)

/-- 'trellistop.WholeRest': WHATEVER THE INPUT: true; the input reads as it did. -/
def wholeRestSpec : ChangeSpec := { name := "wholeRest", fn := fun _ => fun
  | [d1, d2, d3] => { results := [.lit (.bool true)], args := [d1, d2, d3] }
  | _ => none }
def wholeRestRow : OpenClaim := { program := "ytbcgggadelnaaaagreat", sum := "218007c354518800b4e3c3cd7bb6c2f51c9617d7377ad465caa23f350e8f0bec", func := "trellis/trellistop.WholeRest", spec := "wholeRest", inPlace := ["math/bits.Add64", "math/bits.Sub64", "slices.overlaps[trellis/hnf.step]"], unfollowed := true, recurses := true, named := ["math/bits.divideError", "math/bits.overflowError"], apart := false }
def WholeRestSaid : Prop := wholeRestRow.holds Tryz.pinned (OpenSpec.ofChange wholeRestSpec)

/-- ITS FALSE NEIGHBOUR: 'it returns false'. Refute it at one input. -/
def wholeRestWrong : ChangeSpec := { name := "wholeRest", fn := fun _ => fun
  | [d1, d2, d3] => { results := [.lit (.bool false)], args := [d1, d2, d3] }
  | _ => none }
def WholeRestWrongFalsely : Prop := wholeRestRow.holds Tryz.pinned (OpenSpec.ofChange wholeRestWrong)

/- THE SECOND FORM. 'bulk': how many values and letters a reading holds, each counted each time it is reached (what is shared counts as often as it is met; a slice's spare places count too). A statement '..UptoSaid' is the law's where the arguments, and the package variables that the reading takes, are together of bulk at most 1048576: NARROWER than '..Said'. Prove '..Said' where nothing that the law and all that it calls make is longer than what came in: it says more and counts as full. Else prove '..UptoSaid'. A law counts once. -/
mutual
def uptoBulk {H : Type} : DataW H → Nat
  | .lit (.string bytes) => bytes.length + 1
  | .lit _ => 1
  | .nil => 1
  | .ptr d => uptoBulk d + 1
  | .slice elems spare => uptoBulkAll elems + uptoBulkAll spare + 1
  | .agg parts => uptoBulkAll parts + 1
  | .iface _ d => uptoBulk d + 1
  | .map entries => uptoBulkEntries entries + 1
  | .held _ => 1
def uptoBulkAll {H : Type} : List (DataW H) → Nat
  | [] => 0
  | d :: r => uptoBulk d + uptoBulkAll r
def uptoBulkEntries {H : Type} : List (Lit × DataW H) → Nat
  | [] => 0
  | x :: r => uptoBulkEntry x + uptoBulkEntries r
def uptoBulkEntry {H : Type} : Lit × DataW H → Nat
  | (.string bytes, d) => bytes.length + uptoBulk d + 1
  | (_, d) => uptoBulk d + 1
 end
def uptoSmall : (H : Type) → List (DataW H) → Bool := fun _ ds => decide (uptoBulkAll ds ≤ 1048576)
def OpenSpec.upto (s : _root_.Go.ChangeSpec) : _root_.Go.OpenSpec := { _root_.Go.OpenSpec.ofChange s with cond := some uptoSmall }

/-- 'trellistop.WholeHermite', WHERE WHAT IT READS IS OF BULK AT MOST 1048576: true; the input reads as it did. -/
def wholeHermiteUptoRow : OpenClaim := { program := "ytbcgggadelnaaaagreat", sum := "218007c354518800b4e3c3cd7bb6c2f51c9617d7377ad465caa23f350e8f0bec", func := "trellis/trellistop.WholeHermite", spec := "wholeHermite", inPlace := ["math/bits.Add64", "math/bits.Sub64", "slices.overlaps[trellis/hnf.step]"], unfollowed := true, recurses := true, named := ["math/bits.divideError", "math/bits.overflowError"], apart := false, narrowed := true }
def WholeHermiteUptoSaid : Prop := wholeHermiteUptoRow.holds Tryz.pinned (OpenSpec.upto wholeHermiteSpec)

/-- 'trellistop.WholeOneHermite', WHERE WHAT IT READS IS OF BULK AT MOST 1048576: true; the input reads as it did. -/
def wholeOneHermiteUptoRow : OpenClaim := { program := "ytbcgggadelnaaaagreat", sum := "218007c354518800b4e3c3cd7bb6c2f51c9617d7377ad465caa23f350e8f0bec", func := "trellis/trellistop.WholeOneHermite", spec := "wholeOneHermite", inPlace := ["math/bits.Add64", "math/bits.Sub64", "slices.overlaps[trellis/hnf.step]"], unfollowed := true, recurses := true, named := ["math/bits.divideError", "math/bits.overflowError"], apart := false, narrowed := true }
def WholeOneHermiteUptoSaid : Prop := wholeOneHermiteUptoRow.holds Tryz.pinned (OpenSpec.upto wholeOneHermiteSpec)

/-- 'trellistop.WholeRest', WHERE WHAT IT READS IS OF BULK AT MOST 1048576: true; the input reads as it did. -/
def wholeRestUptoRow : OpenClaim := { program := "ytbcgggadelnaaaagreat", sum := "218007c354518800b4e3c3cd7bb6c2f51c9617d7377ad465caa23f350e8f0bec", func := "trellis/trellistop.WholeRest", spec := "wholeRest", inPlace := ["math/bits.Add64", "math/bits.Sub64", "slices.overlaps[trellis/hnf.step]"], unfollowed := true, recurses := true, named := ["math/bits.divideError", "math/bits.overflowError"], apart := false, narrowed := true }
def WholeRestUptoSaid : Prop := wholeRestUptoRow.holds Tryz.pinned (OpenSpec.upto wholeRestSpec)

end Rows
end Go.Proofs.YtbcgggadelnaaaaGreat
