/-
  No cell of these rows narrows 'for every input' (looked for: loops, veiled, ifaces, maps, wideKeys, modest, calm, conditions, laid).
  DERIVED. THE GIVEN ROWS OF THIS SEAT. 6 by the template 'for every input the law returns true; each argument reads behind the call as it read before'; 0 by the template 'total and deterministic' (their statements: YtlhbcdapinacgaaGreatTotals.lean).
  GIVEN WITH THE SEED: the statements are not yours to turn. If you find one false, say at which input.
  Laid BY PROGRAM, IN A SANDBOX (cutbox-rows.mjs): the forced cells as the released guide's own fill.sh prints them over the translation af33b6273ee4f1ac… (all of the seat's roots in one cut). By AI agents, Wed Nov 11 2026. No macro, syntax, notation, axiom, sorry.
-/
import Derived.Test.YtlhbcdapinacgaaGreatChecked
import GoSem.Claim
import GoSem.ClaimJoined
import GoSem.ClaimMapViews
import Derived.JoinedTies
import Derived.KernelRfl
namespace Go.Proofs.YtlhbcdapinacgaaGreat
/- THE CELL 'sum', in the pinned program and in every row, IS THE sha256 OF THE DUMP (.gsa) THAT YtlhbcdapinacgaaGreatProg.lean LOADS. Nothing in Lean hashes anything: it is a label: what it is worth is what the hold of that sum in a sandbox is worth. -/
noncomputable def Tryz.pinned : Pinned := { name := "ytlhbcdapinacgaagreat", sum := "af33b6273ee4f1ac54995e6c5e6faa5514fcfebc4b879ad7fcbd9b5fc1831f30", checked := Tryz.checked }
namespace Rows
def none {H : Type} : Left H := { results := [], args := [] }

/-- 'trellislaw13.BareissExpands': WHATEVER THE INPUT: true; the input reads as it did. -/
def bareissExpandsSpec : ChangeSpec := { name := "bareissExpands", fn := fun _ => fun
  | [d1, d2] => { results := [.lit (.bool true)], args := [d1, d2] }
  | _ => none }
def bareissExpandsRow : OpenClaim := { program := "ytlhbcdapinacgaagreat", sum := "af33b6273ee4f1ac54995e6c5e6faa5514fcfebc4b879ad7fcbd9b5fc1831f30", func := "trellis/trellislaw13.BareissExpands", spec := "bareissExpands", inPlace := ["math/bits.Add64", "math/bits.Sub64"], unfollowed := true, recurses := true, named := ["math/bits.divideError", "math/bits.overflowError"], apart := false }
def BareissExpandsSaid : Prop := bareissExpandsRow.holds Tryz.pinned (OpenSpec.ofChange bareissExpandsSpec)

/-- ITS FALSE NEIGHBOUR: 'it returns false'. Refute it at one input. -/
def bareissExpandsWrong : ChangeSpec := { name := "bareissExpands", fn := fun _ => fun
  | [d1, d2] => { results := [.lit (.bool false)], args := [d1, d2] }
  | _ => none }
def BareissExpandsWrongFalsely : Prop := bareissExpandsRow.holds Tryz.pinned (OpenSpec.ofChange bareissExpandsWrong)

/-- 'trellislaw13.BareissProducts': WHATEVER THE INPUT: true; the input reads as it did. -/
def bareissProductsSpec : ChangeSpec := { name := "bareissProducts", fn := fun _ => fun
  | [d1, d2] => { results := [.lit (.bool true)], args := [d1, d2] }
  | _ => none }
def bareissProductsRow : OpenClaim := { program := "ytlhbcdapinacgaagreat", sum := "af33b6273ee4f1ac54995e6c5e6faa5514fcfebc4b879ad7fcbd9b5fc1831f30", func := "trellis/trellislaw13.BareissProducts", spec := "bareissProducts", inPlace := ["math/bits.Add64", "math/bits.Sub64"], unfollowed := true, recurses := true, named := ["math/bits.divideError", "math/bits.overflowError"], apart := false }
def BareissProductsSaid : Prop := bareissProductsRow.holds Tryz.pinned (OpenSpec.ofChange bareissProductsSpec)

/-- ITS FALSE NEIGHBOUR: 'it returns false'. Refute it at one input. -/
def bareissProductsWrong : ChangeSpec := { name := "bareissProducts", fn := fun _ => fun
  | [d1, d2] => { results := [.lit (.bool false)], args := [d1, d2] }
  | _ => none }
def BareissProductsWrongFalsely : Prop := bareissProductsRow.holds Tryz.pinned (OpenSpec.ofChange bareissProductsWrong)

/-- 'trellislaw13.BareissCores': WHATEVER THE INPUT: true; the input reads as it did. -/
def bareissCoresSpec : ChangeSpec := { name := "bareissCores", fn := fun _ => fun
  | [d1, d2, d3] => { results := [.lit (.bool true)], args := [d1, d2, d3] }
  | _ => none }
def bareissCoresRow : OpenClaim := { program := "ytlhbcdapinacgaagreat", sum := "af33b6273ee4f1ac54995e6c5e6faa5514fcfebc4b879ad7fcbd9b5fc1831f30", func := "trellis/trellislaw13.BareissCores", spec := "bareissCores", inPlace := ["math/bits.Add64", "math/bits.Sub64"], unfollowed := true, recurses := true, named := ["math/bits.divideError", "math/bits.overflowError"], apart := false }
def BareissCoresSaid : Prop := bareissCoresRow.holds Tryz.pinned (OpenSpec.ofChange bareissCoresSpec)

/-- ITS FALSE NEIGHBOUR: 'it returns false'. Refute it at one input. -/
def bareissCoresWrong : ChangeSpec := { name := "bareissCores", fn := fun _ => fun
  | [d1, d2, d3] => { results := [.lit (.bool false)], args := [d1, d2, d3] }
  | _ => none }
def BareissCoresWrongFalsely : Prop := bareissCoresRow.holds Tryz.pinned (OpenSpec.ofChange bareissCoresWrong)

/-- 'trellislaw13.BareissSets': WHATEVER THE INPUT: true; the input reads as it did. -/
def bareissSetsSpec : ChangeSpec := { name := "bareissSets", fn := fun _ => fun
  | [d1, d2] => { results := [.lit (.bool true)], args := [d1, d2] }
  | _ => none }
def bareissSetsRow : OpenClaim := { program := "ytlhbcdapinacgaagreat", sum := "af33b6273ee4f1ac54995e6c5e6faa5514fcfebc4b879ad7fcbd9b5fc1831f30", func := "trellis/trellislaw13.BareissSets", spec := "bareissSets", inPlace := ["math/bits.Add64", "math/bits.Sub64"], unfollowed := true, recurses := true, named := ["math/bits.divideError", "math/bits.overflowError"], apart := false }
def BareissSetsSaid : Prop := bareissSetsRow.holds Tryz.pinned (OpenSpec.ofChange bareissSetsSpec)

/-- ITS FALSE NEIGHBOUR: 'it returns false'. Refute it at one input. -/
def bareissSetsWrong : ChangeSpec := { name := "bareissSets", fn := fun _ => fun
  | [d1, d2] => { results := [.lit (.bool false)], args := [d1, d2] }
  | _ => none }
def BareissSetsWrongFalsely : Prop := bareissSetsRow.holds Tryz.pinned (OpenSpec.ofChange bareissSetsWrong)

/-- 'trellislaw13.BareissNull': WHATEVER THE INPUT: true; the input reads as it did. -/
def bareissNullSpec : ChangeSpec := { name := "bareissNull", fn := fun _ => fun
  | [d1, d2] => { results := [.lit (.bool true)], args := [d1, d2] }
  | _ => none }
def bareissNullRow : OpenClaim := { program := "ytlhbcdapinacgaagreat", sum := "af33b6273ee4f1ac54995e6c5e6faa5514fcfebc4b879ad7fcbd9b5fc1831f30", func := "trellis/trellislaw13.BareissNull", spec := "bareissNull", inPlace := ["math/bits.Add64", "math/bits.Sub64"], unfollowed := true, recurses := true, named := ["math/bits.divideError", "math/bits.overflowError"], apart := false }
def BareissNullSaid : Prop := bareissNullRow.holds Tryz.pinned (OpenSpec.ofChange bareissNullSpec)

/-- ITS FALSE NEIGHBOUR: 'it returns false'. Refute it at one input. -/
def bareissNullWrong : ChangeSpec := { name := "bareissNull", fn := fun _ => fun
  | [d1, d2] => { results := [.lit (.bool false)], args := [d1, d2] }
  | _ => none }
def BareissNullWrongFalsely : Prop := bareissNullRow.holds Tryz.pinned (OpenSpec.ofChange bareissNullWrong)

/-- 'trellislaw13.BareissLeads': WHATEVER THE INPUT: true; the input reads as it did. -/
def bareissLeadsSpec : ChangeSpec := { name := "bareissLeads", fn := fun _ => fun
  | [d1, d2] => { results := [.lit (.bool true)], args := [d1, d2] }
  | _ => none }
def bareissLeadsRow : OpenClaim := { program := "ytlhbcdapinacgaagreat", sum := "af33b6273ee4f1ac54995e6c5e6faa5514fcfebc4b879ad7fcbd9b5fc1831f30", func := "trellis/trellislaw13.BareissLeads", spec := "bareissLeads", inPlace := ["math/bits.Add64", "math/bits.Sub64"], unfollowed := true, recurses := true, named := ["math/bits.divideError", "math/bits.overflowError"], apart := false }
def BareissLeadsSaid : Prop := bareissLeadsRow.holds Tryz.pinned (OpenSpec.ofChange bareissLeadsSpec)

/-- ITS FALSE NEIGHBOUR: 'it returns false'. Refute it at one input. -/
def bareissLeadsWrong : ChangeSpec := { name := "bareissLeads", fn := fun _ => fun
  | [d1, d2] => { results := [.lit (.bool false)], args := [d1, d2] }
  | _ => none }
def BareissLeadsWrongFalsely : Prop := bareissLeadsRow.holds Tryz.pinned (OpenSpec.ofChange bareissLeadsWrong)

/- THE SECOND FORM. 'bulk': how many values and letters a reading holds, each counted each time it is reached (what is shared counts as often as it is met; a slice's spare places count too). A statement '..UptoSaid' is the law's where the arguments, and the package variables that the reading takes, are together of bulk at most 1048576: NARROWER than '..Said'. Prove '..Said' where nothing that the law and all that it calls make is longer than what came in: it says more and counts as full. Else prove '..UptoSaid'. A law counts once. -/
mutual
def uptoBulk {H : Type} : DataW H → Nat
  | .lit (.string bytes) => bytes.length + 1
  | .lit _ => 1
  | .nil => 1
  | .ptr d => uptoBulk d + 1
  | .slice elems spare => uptoBulkAll elems + uptoBulkAll spare + 1
  | .agg parts => uptoBulkAll parts + 1
  | .iface _ d => uptoBulk d + 1
  | .map entries => uptoBulkEntries entries + 1
  | .held _ => 1
def uptoBulkAll {H : Type} : List (DataW H) → Nat
  | [] => 0
  | d :: r => uptoBulk d + uptoBulkAll r
def uptoBulkEntries {H : Type} : List (Lit × DataW H) → Nat
  | [] => 0
  | x :: r => uptoBulkEntry x + uptoBulkEntries r
def uptoBulkEntry {H : Type} : Lit × DataW H → Nat
  | (.string bytes, d) => bytes.length + uptoBulk d + 1
  | (_, d) => uptoBulk d + 1
 end
def uptoSmall : (H : Type) → List (DataW H) → Bool := fun _ ds => decide (uptoBulkAll ds ≤ 1048576)
def OpenSpec.upto (s : _root_.Go.ChangeSpec) : _root_.Go.OpenSpec := { _root_.Go.OpenSpec.ofChange s with cond := some uptoSmall }

/-- 'trellislaw13.BareissExpands', WHERE WHAT IT READS IS OF BULK AT MOST 1048576: true; the input reads as it did. -/
def bareissExpandsUptoRow : OpenClaim := { program := "ytlhbcdapinacgaagreat", sum := "af33b6273ee4f1ac54995e6c5e6faa5514fcfebc4b879ad7fcbd9b5fc1831f30", func := "trellis/trellislaw13.BareissExpands", spec := "bareissExpands", inPlace := ["math/bits.Add64", "math/bits.Sub64"], unfollowed := true, recurses := true, named := ["math/bits.divideError", "math/bits.overflowError"], apart := false, narrowed := true }
def BareissExpandsUptoSaid : Prop := bareissExpandsUptoRow.holds Tryz.pinned (OpenSpec.upto bareissExpandsSpec)

/-- 'trellislaw13.BareissProducts', WHERE WHAT IT READS IS OF BULK AT MOST 1048576: true; the input reads as it did. -/
def bareissProductsUptoRow : OpenClaim := { program := "ytlhbcdapinacgaagreat", sum := "af33b6273ee4f1ac54995e6c5e6faa5514fcfebc4b879ad7fcbd9b5fc1831f30", func := "trellis/trellislaw13.BareissProducts", spec := "bareissProducts", inPlace := ["math/bits.Add64", "math/bits.Sub64"], unfollowed := true, recurses := true, named := ["math/bits.divideError", "math/bits.overflowError"], apart := false, narrowed := true }
def BareissProductsUptoSaid : Prop := bareissProductsUptoRow.holds Tryz.pinned (OpenSpec.upto bareissProductsSpec)

/-- 'trellislaw13.BareissCores', WHERE WHAT IT READS IS OF BULK AT MOST 1048576: true; the input reads as it did. -/
def bareissCoresUptoRow : OpenClaim := { program := "ytlhbcdapinacgaagreat", sum := "af33b6273ee4f1ac54995e6c5e6faa5514fcfebc4b879ad7fcbd9b5fc1831f30", func := "trellis/trellislaw13.BareissCores", spec := "bareissCores", inPlace := ["math/bits.Add64", "math/bits.Sub64"], unfollowed := true, recurses := true, named := ["math/bits.divideError", "math/bits.overflowError"], apart := false, narrowed := true }
def BareissCoresUptoSaid : Prop := bareissCoresUptoRow.holds Tryz.pinned (OpenSpec.upto bareissCoresSpec)

/-- 'trellislaw13.BareissSets', WHERE WHAT IT READS IS OF BULK AT MOST 1048576: true; the input reads as it did. -/
def bareissSetsUptoRow : OpenClaim := { program := "ytlhbcdapinacgaagreat", sum := "af33b6273ee4f1ac54995e6c5e6faa5514fcfebc4b879ad7fcbd9b5fc1831f30", func := "trellis/trellislaw13.BareissSets", spec := "bareissSets", inPlace := ["math/bits.Add64", "math/bits.Sub64"], unfollowed := true, recurses := true, named := ["math/bits.divideError", "math/bits.overflowError"], apart := false, narrowed := true }
def BareissSetsUptoSaid : Prop := bareissSetsUptoRow.holds Tryz.pinned (OpenSpec.upto bareissSetsSpec)

/-- 'trellislaw13.BareissNull', WHERE WHAT IT READS IS OF BULK AT MOST 1048576: true; the input reads as it did. -/
def bareissNullUptoRow : OpenClaim := { program := "ytlhbcdapinacgaagreat", sum := "af33b6273ee4f1ac54995e6c5e6faa5514fcfebc4b879ad7fcbd9b5fc1831f30", func := "trellis/trellislaw13.BareissNull", spec := "bareissNull", inPlace := ["math/bits.Add64", "math/bits.Sub64"], unfollowed := true, recurses := true, named := ["math/bits.divideError", "math/bits.overflowError"], apart := false, narrowed := true }
def BareissNullUptoSaid : Prop := bareissNullUptoRow.holds Tryz.pinned (OpenSpec.upto bareissNullSpec)

/-- 'trellislaw13.BareissLeads', WHERE WHAT IT READS IS OF BULK AT MOST 1048576: true; the input reads as it did. -/
def bareissLeadsUptoRow : OpenClaim := { program := "ytlhbcdapinacgaagreat", sum := "af33b6273ee4f1ac54995e6c5e6faa5514fcfebc4b879ad7fcbd9b5fc1831f30", func := "trellis/trellislaw13.BareissLeads", spec := "bareissLeads", inPlace := ["math/bits.Add64", "math/bits.Sub64"], unfollowed := true, recurses := true, named := ["math/bits.divideError", "math/bits.overflowError"], apart := false, narrowed := true }
def BareissLeadsUptoSaid : Prop := bareissLeadsUptoRow.holds Tryz.pinned (OpenSpec.upto bareissLeadsSpec)

end Rows
end Go.Proofs.YtlhbcdapinacgaaGreat
