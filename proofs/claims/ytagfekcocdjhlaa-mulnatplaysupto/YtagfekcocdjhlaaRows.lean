/-
  No cell of these rows narrows 'for every input' (looked for: loops, veiled, ifaces, maps, wideKeys, modest, calm, conditions, laid).
  DERIVED. THE GIVEN ROWS OF THIS SEAT. 4 by the template 'for every input the law returns true; each argument reads behind the call as it read before'; 0 by the template 'total and deterministic' (their statements: YtagfekcocdjhlaaTotals.lean).
  GIVEN WITH THE SEED: the statements are not yours to turn. If you find one false, say at which input.
  Laid BY PROGRAM, IN A SANDBOX (cutbox-rows.mjs): the forced cells as the released guide's own fill.sh prints them over the translation 55561cfc922b3cbe… (all of the seat's roots in one cut). By AI agents, Wed Nov 11 2026. No macro, syntax, notation, axiom, sorry.
-/
import Derived.Test.YtagfekcocdjhlaaChecked
import GoSem.Claim
import GoSem.ClaimJoined
import GoSem.ClaimMapViews
import Derived.JoinedTies
import Derived.KernelRfl
namespace Go.Proofs.Ytagfekcocdjhlaa
/- THE CELL 'sum', in the pinned program and in every row, IS THE sha256 OF THE DUMP (.gsa) THAT YtagfekcocdjhlaaProg.lean LOADS. Nothing in Lean hashes anything: it is a label: what it is worth is what the hold of that sum in a sandbox is worth. -/
noncomputable def Try.pinned : Pinned := { name := "ytagfekcocdjhlaa", sum := "55561cfc922b3cbe0c1de351d621303ef23aba81356b20940f418b9e22dfce98", checked := Try.checked }
namespace Rows
def none {H : Type} : Left H := { results := [], args := [] }

/-- 'trellislaw02.MulnatPlays': WHATEVER THE INPUT: true; the input reads as it did. -/
def mulnatPlaysSpec : ChangeSpec := { name := "mulnatPlays", fn := fun _ => fun
  | [d] => { results := [.lit (.bool true)], args := [d] }
  | _ => none }
def mulnatPlaysRow : OpenClaim := { program := "ytagfekcocdjhlaa", sum := "55561cfc922b3cbe0c1de351d621303ef23aba81356b20940f418b9e22dfce98", func := "trellis/trellislaw02.MulnatPlays", spec := "mulnatPlays", inPlace := ["math/bits.Add64", "math/bits.Sub64"], recurses := true, apart := false }
def MulnatPlaysSaid : Prop := mulnatPlaysRow.holds Try.pinned (OpenSpec.ofChange mulnatPlaysSpec)

/-- ITS FALSE NEIGHBOUR: 'it returns false'. Refute it at one input. -/
def mulnatPlaysWrong : ChangeSpec := { name := "mulnatPlays", fn := fun _ => fun
  | [d] => { results := [.lit (.bool false)], args := [d] }
  | _ => none }
def MulnatPlaysWrongFalsely : Prop := mulnatPlaysRow.holds Try.pinned (OpenSpec.ofChange mulnatPlaysWrong)

/-- 'trellislaw02.MulnatKeeps': WHATEVER THE INPUT: true; the input reads as it did. -/
def mulnatKeepsSpec : ChangeSpec := { name := "mulnatKeeps", fn := fun _ => fun
  | [d] => { results := [.lit (.bool true)], args := [d] }
  | _ => none }
def mulnatKeepsRow : OpenClaim := { program := "ytagfekcocdjhlaa", sum := "55561cfc922b3cbe0c1de351d621303ef23aba81356b20940f418b9e22dfce98", func := "trellis/trellislaw02.MulnatKeeps", spec := "mulnatKeeps", inPlace := ["math/bits.Add64", "math/bits.Sub64"], recurses := true, apart := false }
def MulnatKeepsSaid : Prop := mulnatKeepsRow.holds Try.pinned (OpenSpec.ofChange mulnatKeepsSpec)

/-- ITS FALSE NEIGHBOUR: 'it returns false'. Refute it at one input. -/
def mulnatKeepsWrong : ChangeSpec := { name := "mulnatKeeps", fn := fun _ => fun
  | [d] => { results := [.lit (.bool false)], args := [d] }
  | _ => none }
def MulnatKeepsWrongFalsely : Prop := mulnatKeepsRow.holds Try.pinned (OpenSpec.ofChange mulnatKeepsWrong)

/-- 'trellislaw02.MulnatRing': WHATEVER THE INPUT: true; the input reads as it did. -/
def mulnatRingSpec : ChangeSpec := { name := "mulnatRing", fn := fun _ => fun
  | [d1, d2, d3] => { results := [.lit (.bool true)], args := [d1, d2, d3] }
  | _ => none }
def mulnatRingRow : OpenClaim := { program := "ytagfekcocdjhlaa", sum := "55561cfc922b3cbe0c1de351d621303ef23aba81356b20940f418b9e22dfce98", func := "trellis/trellislaw02.MulnatRing", spec := "mulnatRing", inPlace := ["math/bits.Add64", "math/bits.Sub64"], recurses := true, apart := false }
def MulnatRingSaid : Prop := mulnatRingRow.holds Try.pinned (OpenSpec.ofChange mulnatRingSpec)

/-- ITS FALSE NEIGHBOUR: 'it returns false'. Refute it at one input. -/
def mulnatRingWrong : ChangeSpec := { name := "mulnatRing", fn := fun _ => fun
  | [d1, d2, d3] => { results := [.lit (.bool false)], args := [d1, d2, d3] }
  | _ => none }
def MulnatRingWrongFalsely : Prop := mulnatRingRow.holds Try.pinned (OpenSpec.ofChange mulnatRingWrong)

/-- 'trellislaw02.MulnatPowers': WHATEVER THE INPUT: true; the input reads as it did. -/
def mulnatPowersSpec : ChangeSpec := { name := "mulnatPowers", fn := fun _ => fun
  | [d1, d2, d3] => { results := [.lit (.bool true)], args := [d1, d2, d3] }
  | _ => none }
def mulnatPowersRow : OpenClaim := { program := "ytagfekcocdjhlaa", sum := "55561cfc922b3cbe0c1de351d621303ef23aba81356b20940f418b9e22dfce98", func := "trellis/trellislaw02.MulnatPowers", spec := "mulnatPowers", inPlace := ["math/bits.Add64", "math/bits.Sub64"], recurses := true, apart := false }
def MulnatPowersSaid : Prop := mulnatPowersRow.holds Try.pinned (OpenSpec.ofChange mulnatPowersSpec)

/-- ITS FALSE NEIGHBOUR: 'it returns false'. Refute it at one input. -/
def mulnatPowersWrong : ChangeSpec := { name := "mulnatPowers", fn := fun _ => fun
  | [d1, d2, d3] => { results := [.lit (.bool false)], args := [d1, d2, d3] }
  | _ => none }
def MulnatPowersWrongFalsely : Prop := mulnatPowersRow.holds Try.pinned (OpenSpec.ofChange mulnatPowersWrong)

/- THE SECOND FORM. 'bulk': how many values and letters a reading holds, each counted each time it is reached (what is shared counts as often as it is met; a slice's spare places count too). A statement '..UptoSaid' is the law's where the arguments, and the package variables that the reading takes, are together of bulk at most 1048576: NARROWER than '..Said'. Prove '..Said' where nothing that the law and all that it calls make is longer than what came in: it says more and counts as full. Else prove '..UptoSaid'. A law counts once. -/
mutual
def uptoBulk {H : Type} : DataW H → Nat
  | .lit (.string bytes) => bytes.length + 1
  | .lit _ => 1
  | .nil => 1
  | .ptr d => uptoBulk d + 1
  | .slice elems spare => uptoBulkAll elems + uptoBulkAll spare + 1
  | .agg parts => uptoBulkAll parts + 1
  | .iface _ d => uptoBulk d + 1
  | .map entries => uptoBulkEntries entries + 1
  | .held _ => 1
def uptoBulkAll {H : Type} : List (DataW H) → Nat
  | [] => 0
  | d :: r => uptoBulk d + uptoBulkAll r
def uptoBulkEntries {H : Type} : List (Lit × DataW H) → Nat
  | [] => 0
  | x :: r => uptoBulkEntry x + uptoBulkEntries r
def uptoBulkEntry {H : Type} : Lit × DataW H → Nat
  | (.string bytes, d) => bytes.length + uptoBulk d + 1
  | (_, d) => uptoBulk d + 1
 end
def uptoSmall : (H : Type) → List (DataW H) → Bool := fun _ ds => decide (uptoBulkAll ds ≤ 1048576)
def OpenSpec.upto (s : _root_.Go.ChangeSpec) : _root_.Go.OpenSpec := { _root_.Go.OpenSpec.ofChange s with cond := some uptoSmall }

/-- 'trellislaw02.MulnatPlays', WHERE WHAT IT READS IS OF BULK AT MOST 1048576: true; the input reads as it did. -/
def mulnatPlaysUptoRow : OpenClaim := { program := "ytagfekcocdjhlaa", sum := "55561cfc922b3cbe0c1de351d621303ef23aba81356b20940f418b9e22dfce98", func := "trellis/trellislaw02.MulnatPlays", spec := "mulnatPlays", inPlace := ["math/bits.Add64", "math/bits.Sub64"], recurses := true, apart := false, narrowed := true }
def MulnatPlaysUptoSaid : Prop := mulnatPlaysUptoRow.holds Try.pinned (OpenSpec.upto mulnatPlaysSpec)

/-- 'trellislaw02.MulnatKeeps', WHERE WHAT IT READS IS OF BULK AT MOST 1048576: true; the input reads as it did. -/
def mulnatKeepsUptoRow : OpenClaim := { program := "ytagfekcocdjhlaa", sum := "55561cfc922b3cbe0c1de351d621303ef23aba81356b20940f418b9e22dfce98", func := "trellis/trellislaw02.MulnatKeeps", spec := "mulnatKeeps", inPlace := ["math/bits.Add64", "math/bits.Sub64"], recurses := true, apart := false, narrowed := true }
def MulnatKeepsUptoSaid : Prop := mulnatKeepsUptoRow.holds Try.pinned (OpenSpec.upto mulnatKeepsSpec)

/-- 'trellislaw02.MulnatRing', WHERE WHAT IT READS IS OF BULK AT MOST 1048576: true; the input reads as it did. -/
def mulnatRingUptoRow : OpenClaim := { program := "ytagfekcocdjhlaa", sum := "55561cfc922b3cbe0c1de351d621303ef23aba81356b20940f418b9e22dfce98", func := "trellis/trellislaw02.MulnatRing", spec := "mulnatRing", inPlace := ["math/bits.Add64", "math/bits.Sub64"], recurses := true, apart := false, narrowed := true }
def MulnatRingUptoSaid : Prop := mulnatRingUptoRow.holds Try.pinned (OpenSpec.upto mulnatRingSpec)

/-- 'trellislaw02.MulnatPowers', WHERE WHAT IT READS IS OF BULK AT MOST 1048576: true; the input reads as it did. -/
def mulnatPowersUptoRow : OpenClaim := { program := "ytagfekcocdjhlaa", sum := "55561cfc922b3cbe0c1de351d621303ef23aba81356b20940f418b9e22dfce98", func := "trellis/trellislaw02.MulnatPowers", spec := "mulnatPowers", inPlace := ["math/bits.Add64", "math/bits.Sub64"], recurses := true, apart := false, narrowed := true }
def MulnatPowersUptoSaid : Prop := mulnatPowersUptoRow.holds Try.pinned (OpenSpec.upto mulnatPowersSpec)

end Rows
end Go.Proofs.Ytagfekcocdjhlaa
