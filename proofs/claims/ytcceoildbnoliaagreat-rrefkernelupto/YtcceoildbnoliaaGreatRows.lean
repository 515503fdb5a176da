/-
  No cell of these rows narrows 'for every input' (looked for: loops, veiled, ifaces, maps, wideKeys, modest, calm, conditions, laid).
  DERIVED. THE GIVEN ROWS OF THIS SEAT. 4 by the template 'for every input the law returns true; each argument reads behind the call as it read before'; 0 by the template 'total and deterministic' (their statements: YtcceoildbnoliaaGreatTotals.lean).
  GIVEN WITH THE SEED: the statements are not yours to turn. If you find one false, say at which input.
  Laid BY PROGRAM, IN A SANDBOX (cutbox-rows.mjs): the forced cells as the released guide's own fill.sh prints them over the translation 3ce3307383620123… (all of the seat's roots in one cut). By AI agents, Wed Nov 11 2026. No macro, syntax, notation, axiom, sorry.
-/
import Derived.Test.YtcceoildbnoliaaGreatChecked
import GoSem.Claim
import GoSem.ClaimJoined
import GoSem.ClaimMapViews
import Derived.JoinedTies
import Derived.KernelRfl
namespace Go.Proofs.YtcceoildbnoliaaGreat
/- THE CELL 'sum', in the pinned program and in every row, IS THE sha256 OF THE DUMP (.gsa) THAT YtcceoildbnoliaaGreatProg.lean LOADS. Nothing in Lean hashes anything: it is a label: what it is worth is what the hold of that sum in a sandbox is worth. -/
noncomputable def Tryz.pinned : Pinned := { name := "ytcceoildbnoliaagreat", sum := "3ce330738362012384f06bfc968a642f13c317039d8903148aafa3885c122b9e", checked := Tryz.checked }
namespace Rows
def none {H : Type} : Left H := { results := [], args := [] }

/-- 'trellislaw17.RrefEchelon': WHATEVER THE INPUT: true; the input reads as it did. -/
def rrefEchelonSpec : ChangeSpec := { name := "rrefEchelon", fn := fun _ => fun
  | [d1, d2, d3] => { results := [.lit (.bool true)], args := [d1, d2, d3] }
  | _ => none }
def rrefEchelonRow : OpenClaim := { program := "ytcceoildbnoliaagreat", sum := "3ce330738362012384f06bfc968a642f13c317039d8903148aafa3885c122b9e", func := "trellis/trellislaw17.RrefEchelon", spec := "rrefEchelon", inPlace := ["math/bits.Add64", "math/bits.Sub64"], unfollowed := true, recurses := true, named := ["math/bits.divideError", "math/bits.overflowError"], apart := false }
def RrefEchelonSaid : Prop := rrefEchelonRow.holds Tryz.pinned (OpenSpec.ofChange rrefEchelonSpec)

/-- ITS FALSE NEIGHBOUR: 'it returns false'. Refute it at one input. -/
def rrefEchelonWrong : ChangeSpec := { name := "rrefEchelon", fn := fun _ => fun
  | [d1, d2, d3] => { results := [.lit (.bool false)], args := [d1, d2, d3] }
  | _ => none }
def RrefEchelonWrongFalsely : Prop := rrefEchelonRow.holds Tryz.pinned (OpenSpec.ofChange rrefEchelonWrong)

/-- 'trellislaw17.RrefKernel': WHATEVER THE INPUT: true; the input reads as it did. -/
def rrefKernelSpec : ChangeSpec := { name := "rrefKernel", fn := fun _ => fun
  | [d] => { results := [.lit (.bool true)], args := [d] }
  | _ => none }
def rrefKernelRow : OpenClaim := { program := "ytcceoildbnoliaagreat", sum := "3ce330738362012384f06bfc968a642f13c317039d8903148aafa3885c122b9e", func := "trellis/trellislaw17.RrefKernel", spec := "rrefKernel", inPlace := ["math/bits.Add64", "math/bits.Sub64"], unfollowed := true, recurses := true, named := ["math/bits.divideError", "math/bits.overflowError"], apart := false }
def RrefKernelSaid : Prop := rrefKernelRow.holds Tryz.pinned (OpenSpec.ofChange rrefKernelSpec)

/-- ITS FALSE NEIGHBOUR: 'it returns false'. Refute it at one input. -/
def rrefKernelWrong : ChangeSpec := { name := "rrefKernel", fn := fun _ => fun
  | [d] => { results := [.lit (.bool false)], args := [d] }
  | _ => none }
def RrefKernelWrongFalsely : Prop := rrefKernelRow.holds Tryz.pinned (OpenSpec.ofChange rrefKernelWrong)

/-- 'trellislaw17.RrefSolution': WHATEVER THE INPUT: true; the input reads as it did. -/
def rrefSolutionSpec : ChangeSpec := { name := "rrefSolution", fn := fun _ => fun
  | [d1, d2, d3] => { results := [.lit (.bool true)], args := [d1, d2, d3] }
  | _ => none }
def rrefSolutionRow : OpenClaim := { program := "ytcceoildbnoliaagreat", sum := "3ce330738362012384f06bfc968a642f13c317039d8903148aafa3885c122b9e", func := "trellis/trellislaw17.RrefSolution", spec := "rrefSolution", inPlace := ["math/bits.Add64", "math/bits.Sub64"], unfollowed := true, recurses := true, named := ["math/bits.divideError", "math/bits.overflowError"], apart := false }
def RrefSolutionSaid : Prop := rrefSolutionRow.holds Tryz.pinned (OpenSpec.ofChange rrefSolutionSpec)

/-- ITS FALSE NEIGHBOUR: 'it returns false'. Refute it at one input. -/
def rrefSolutionWrong : ChangeSpec := { name := "rrefSolution", fn := fun _ => fun
  | [d1, d2, d3] => { results := [.lit (.bool false)], args := [d1, d2, d3] }
  | _ => none }
def RrefSolutionWrongFalsely : Prop := rrefSolutionRow.holds Tryz.pinned (OpenSpec.ofChange rrefSolutionWrong)

/-- 'trellislaw17.RrefInverse': WHATEVER THE INPUT: true; the input reads as it did. -/
def rrefInverseSpec : ChangeSpec := { name := "rrefInverse", fn := fun _ => fun
  | [d] => { results := [.lit (.bool true)], args := [d] }
  | _ => none }
def rrefInverseRow : OpenClaim := { program := "ytcceoildbnoliaagreat", sum := "3ce330738362012384f06bfc968a642f13c317039d8903148aafa3885c122b9e", func := "trellis/trellislaw17.RrefInverse", spec := "rrefInverse", inPlace := ["math/bits.Add64", "math/bits.Sub64"], unfollowed := true, recurses := true, named := ["math/bits.divideError", "math/bits.overflowError"], apart := false }
def RrefInverseSaid : Prop := rrefInverseRow.holds Tryz.pinned (OpenSpec.ofChange rrefInverseSpec)

/-- ITS FALSE NEIGHBOUR: 'it returns false'. Refute it at one input. -/
def rrefInverseWrong : ChangeSpec := { name := "rrefInverse", fn := fun _ => fun
  | [d] => { results := [.lit (.bool false)], args := [d] }
  | _ => none }
def RrefInverseWrongFalsely : Prop := rrefInverseRow.holds Tryz.pinned (OpenSpec.ofChange rrefInverseWrong)

/- THE SECOND FORM. 'bulk': how many values and letters a reading holds, each counted each time it is reached (what is shared counts as often as it is met; a slice's spare places count too). A statement '..UptoSaid' is the law's where the arguments, and the package variables that the reading takes, are together of bulk at most 1048576: NARROWER than '..Said'. Prove '..Said' where nothing that the law and all that it calls make is longer than what came in: it says more and counts as full. Else prove '..UptoSaid'. A law counts once. -/
mutual
def uptoBulk {H : Type} : DataW H → Nat
  | .lit (.string bytes) => bytes.length + 1
  | .lit _ => 1
  | .nil => 1
  | .ptr d => uptoBulk d + 1
  | .slice elems spare => uptoBulkAll elems + uptoBulkAll spare + 1
  | .agg parts => uptoBulkAll parts + 1
  | .iface _ d => uptoBulk d + 1
  | .map entries => uptoBulkEntries entries + 1
  | .held _ => 1
def uptoBulkAll {H : Type} : List (DataW H) → Nat
  | [] => 0
  | d :: r => uptoBulk d + uptoBulkAll r
def uptoBulkEntries {H : Type} : List (Lit × DataW H) → Nat
  | [] => 0
  | x :: r => uptoBulkEntry x + uptoBulkEntries r
def uptoBulkEntry {H : Type} : Lit × DataW H → Nat
  | (.string bytes, d) => bytes.length + uptoBulk d + 1
  | (_, d) => uptoBulk d + 1
 end
def uptoSmall : (H : Type) → List (DataW H) → Bool := fun _ ds => decide (uptoBulkAll ds ≤ 1048576)
def OpenSpec.upto (s : _root_.Go.ChangeSpec) : _root_.Go.OpenSpec := { _root_.Go.OpenSpec.ofChange s with cond := some uptoSmall }

/-- 'trellislaw17.RrefEchelon', WHERE WHAT IT READS IS OF BULK AT MOST 1048576: true; the input reads as it did. -/
def rrefEchelonUptoRow : OpenClaim := { program := "ytcceoildbnoliaagreat", sum := "3ce330738362012384f06bfc968a642f13c317039d8903148aafa3885c122b9e", func := "trellis/trellislaw17.RrefEchelon", spec := "rrefEchelon", inPlace := ["math/bits.Add64", "math/bits.Sub64"], unfollowed := true, recurses := true, named := ["math/bits.divideError", "math/bits.overflowError"], apart := false, narrowed := true }
def RrefEchelonUptoSaid : Prop := rrefEchelonUptoRow.holds Tryz.pinned (OpenSpec.upto rrefEchelonSpec)

/-- 'trellislaw17.RrefKernel', WHERE WHAT IT READS IS OF BULK AT MOST 1048576: true; the input reads as it did. -/
def rrefKernelUptoRow : OpenClaim := { program := "ytcceoildbnoliaagreat", sum := "3ce330738362012384f06bfc968a642f13c317039d8903148aafa3885c122b9e", func := "trellis/trellislaw17.RrefKernel", spec := "rrefKernel", inPlace := ["math/bits.Add64", "math/bits.Sub64"], unfollowed := true, recurses := true, named := ["math/bits.divideError", "math/bits.overflowError"], apart := false, narrowed := true }
def RrefKernelUptoSaid : Prop := rrefKernelUptoRow.holds Tryz.pinned (OpenSpec.upto rrefKernelSpec)

/-- 'trellislaw17.RrefSolution', WHERE WHAT IT READS IS OF BULK AT MOST 1048576: true; the input reads as it did. -/
def rrefSolutionUptoRow : OpenClaim := { program := "ytcceoildbnoliaagreat", sum := "3ce330738362012384f06bfc968a642f13c317039d8903148aafa3885c122b9e", func := "trellis/trellislaw17.RrefSolution", spec := "rrefSolution", inPlace := ["math/bits.Add64", "math/bits.Sub64"], unfollowed := true, recurses := true, named := ["math/bits.divideError", "math/bits.overflowError"], apart := false, narrowed := true }
def RrefSolutionUptoSaid : Prop := rrefSolutionUptoRow.holds Tryz.pinned (OpenSpec.upto rrefSolutionSpec)

/-- 'trellislaw17.RrefInverse', WHERE WHAT IT READS IS OF BULK AT MOST 1048576: true; the input reads as it did. -/
def rrefInverseUptoRow : OpenClaim := { program := "ytcceoildbnoliaagreat", sum := "3ce330738362012384f06bfc968a642f13c317039d8903148aafa3885c122b9e", func := "trellis/trellislaw17.RrefInverse", spec := "rrefInverse", inPlace := ["math/bits.Add64", "math/bits.Sub64"], unfollowed := true, recurses := true, named := ["math/bits.divideError", "math/bits.overflowError"], apart := false, narrowed := true }
def RrefInverseUptoSaid : Prop := rrefInverseUptoRow.holds Tryz.pinned (OpenSpec.upto rrefInverseSpec)

end Rows
end Go.Proofs.YtcceoildbnoliaaGreat
