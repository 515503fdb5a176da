/-
  NARROWER THAN 'FOR EVERY INPUT', by the rows' own cells (each row's printed sentence says how): LexerWhole: laid · LexerRuns: laid.
  DERIVED. THE GIVEN ROWS OF THIS SEAT. 2 by the template 'for every input the law returns true; each argument reads behind the call as it read before'; 0 by the template 'total and deterministic' (their statements: YtdfnehngffajiabDoorTotals.lean).
  GIVEN WITH THE SEED: the statements are not yours to turn. If you find one false, say at which input.
  Laid BY PROGRAM, IN A SANDBOX (cutbox-rows.mjs): the forced cells as the released guide's own fill.sh prints them over the translation b599a42677d23048… (all of the seat's roots in one cut). By AI agents, Wed Nov 11 2026. No macro, syntax, notation, axiom, sorry.
-/
import Derived.Test.YtdfnehngffajiabDoorChecked
import GoSem.Claim
import GoSem.ClaimJoined
import GoSem.ClaimMapViews
import Derived.JoinedTies
import Derived.KernelRfl
namespace Go.Proofs.YtdfnehngffajiabDoor
/- THE CELL 'sum', in the pinned program and in every row, IS THE sha256 OF THE DUMP (.gsa) THAT YtdfnehngffajiabDoorProg.lean LOADS. Nothing in Lean hashes anything: it is a label: what it is worth is what the hold of that sum in a sandbox is worth. -/
noncomputable def Tryd.pinned : Pinned := { name := "ytdfnehngffajiabdoor", sum := "b599a42677d2304890d1cec41b53429c033063ea5ee87a5976ffc906958e7520", checked := Tryd.checked }
namespace Rows
def none {H : Type} : Left H := { results := [], args := [] }

/- WHAT THE LISTED PACKAGE-LEVEL VARIABLES READ AS WHEN THE CALL BEGINS. Each datum BY PROGRAM (the guide's laid-datum.mjs) off the statement by which the dump's own 'gosem.cut.vars' lays the variable. In a bare row this is a premise. The card (YtdfnehngffajiabDoorCards.lean) ties it to the program's text. -/
def laid_trellis_radix_signs {H : Type} : DataW H := .agg [.lit (.int .u8 48), .lit (.int .u8 49), .lit (.int .u8 50), .lit (.int .u8 51), .lit (.int .u8 52), .lit (.int .u8 53), .lit (.int .u8 54), .lit (.int .u8 55), .lit (.int .u8 56), .lit (.int .u8 57), .lit (.int .u8 97), .lit (.int .u8 98), .lit (.int .u8 99), .lit (.int .u8 100), .lit (.int .u8 101), .lit (.int .u8 102), .lit (.int .u8 103), .lit (.int .u8 104), .lit (.int .u8 105), .lit (.int .u8 106), .lit (.int .u8 107), .lit (.int .u8 108), .lit (.int .u8 109), .lit (.int .u8 110), .lit (.int .u8 111), .lit (.int .u8 112), .lit (.int .u8 113), .lit (.int .u8 114), .lit (.int .u8 115), .lit (.int .u8 116), .lit (.int .u8 117), .lit (.int .u8 118), .lit (.int .u8 119), .lit (.int .u8 120), .lit (.int .u8 121), .lit (.int .u8 122)]

/-- 'trellislaw25.LexerWhole': WHATEVER THE INPUT: true; the input reads as it did. -/
def lexerWholeSpec : ChangeSpec := { name := "lexerWhole", fn := fun _ => fun
  | [d] => { results := [.lit (.bool true)], args := [d] }
  | _ => none }
def lexerWholeRow : OpenClaim := { program := "ytdfnehngffajiabdoor", sum := "b599a42677d2304890d1cec41b53429c033063ea5ee87a5976ffc906958e7520", func := "trellis/trellislaw25.LexerWhole", spec := "lexerWhole", inPlace := ["internal/bytealg.IndexByteString", "internal/bytealg.IndexString", "internal/abi.NoEscape", "math/bits.Add64", "math/bits.Sub64"], recurses := true, named := ["internal/bytealg.MaxLen", "trellis/radix.signs"], apart := false, laid := [("trellis/radix.signs", laid_trellis_radix_signs)] }
def LexerWholeSaid : Prop := lexerWholeRow.holds Tryd.pinned (OpenSpec.ofChange lexerWholeSpec)

/-- ITS FALSE NEIGHBOUR: 'it returns false'. Refute it at one input. -/
def lexerWholeWrong : ChangeSpec := { name := "lexerWhole", fn := fun _ => fun
  | [d] => { results := [.lit (.bool false)], args := [d] }
  | _ => none }
def LexerWholeWrongFalsely : Prop := lexerWholeRow.holds Tryd.pinned (OpenSpec.ofChange lexerWholeWrong)

/-- 'trellislaw25.LexerRuns': WHATEVER THE INPUT: true; the input reads as it did. -/
def lexerRunsSpec : ChangeSpec := { name := "lexerRuns", fn := fun _ => fun
  | [d1, d2] => { results := [.lit (.bool true)], args := [d1, d2] }
  | _ => none }
def lexerRunsRow : OpenClaim := { program := "ytdfnehngffajiabdoor", sum := "b599a42677d2304890d1cec41b53429c033063ea5ee87a5976ffc906958e7520", func := "trellis/trellislaw25.LexerRuns", spec := "lexerRuns", inPlace := ["internal/bytealg.IndexByteString", "internal/bytealg.IndexString", "internal/abi.NoEscape", "math/bits.Add64", "math/bits.Sub64"], recurses := true, named := ["internal/bytealg.MaxLen", "trellis/radix.signs"], apart := false, laid := [("trellis/radix.signs", laid_trellis_radix_signs)] }
def LexerRunsSaid : Prop := lexerRunsRow.holds Tryd.pinned (OpenSpec.ofChange lexerRunsSpec)

/-- ITS FALSE NEIGHBOUR: 'it returns false'. Refute it at one input. -/
def lexerRunsWrong : ChangeSpec := { name := "lexerRuns", fn := fun _ => fun
  | [d1, d2] => { results := [.lit (.bool false)], args := [d1, d2] }
  | _ => none }
def LexerRunsWrongFalsely : Prop := lexerRunsRow.holds Tryd.pinned (OpenSpec.ofChange lexerRunsWrong)

/- THE SECOND FORM. 'bulk': how many values and letters a reading holds, each counted each time it is reached (what is shared counts as often as it is met; a slice's spare places count too). A statement '..UptoSaid' is the law's where the arguments, and the package variables that the reading takes, are together of bulk at most 1048576: NARROWER than '..Said'. Prove '..Said' where nothing that the law and all that it calls make is longer than what came in: it says more and counts as full. Else prove '..UptoSaid'. A law counts once. -/
mutual
def uptoBulk {H : Type} : DataW H → Nat
  | .lit (.string bytes) => bytes.length + 1
  | .lit _ => 1
  | .nil => 1
  | .ptr d => uptoBulk d + 1
  | .slice elems spare => uptoBulkAll elems + uptoBulkAll spare + 1
  | .agg parts => uptoBulkAll parts + 1
  | .iface _ d => uptoBulk d + 1
  | .map entries => uptoBulkEntries entries + 1
  | .held _ => 1
def uptoBulkAll {H : Type} : List (DataW H) → Nat
  | [] => 0
  | d :: r => uptoBulk d + uptoBulkAll r
def uptoBulkEntries {H : Type} : List (Lit × DataW H) → Nat
  | [] => 0
  | x :: r => uptoBulkEntry x + uptoBulkEntries r
def uptoBulkEntry {H : Type} : Lit × DataW H → Nat
  | (.string bytes, d) => bytes.length + uptoBulk d + 1
  | (_, d) => uptoBulk d + 1
 end
def uptoSmall : (H : Type) → List (DataW H) → Bool := fun _ ds => decide (uptoBulkAll ds ≤ 1048576)
def OpenSpec.upto (s : _root_.Go.ChangeSpec) : _root_.Go.OpenSpec := { _root_.Go.OpenSpec.ofChange s with cond := some uptoSmall }

/-- 'trellislaw25.LexerWhole', WHERE WHAT IT READS IS OF BULK AT MOST 1048576: true; the input reads as it did. -/
def lexerWholeUptoRow : OpenClaim := { program := "ytdfnehngffajiabdoor", sum := "b599a42677d2304890d1cec41b53429c033063ea5ee87a5976ffc906958e7520", func := "trellis/trellislaw25.LexerWhole", spec := "lexerWhole", inPlace := ["internal/bytealg.IndexByteString", "internal/bytealg.IndexString", "internal/abi.NoEscape", "math/bits.Add64", "math/bits.Sub64"], recurses := true, named := ["internal/bytealg.MaxLen", "trellis/radix.signs"], apart := false, laid := [("trellis/radix.signs", laid_trellis_radix_signs)], narrowed := true }
def LexerWholeUptoSaid : Prop := lexerWholeUptoRow.holds Tryd.pinned (OpenSpec.upto lexerWholeSpec)

/-- 'trellislaw25.LexerRuns', WHERE WHAT IT READS IS OF BULK AT MOST 1048576: true; the input reads as it did. -/
def lexerRunsUptoRow : OpenClaim := { program := "ytdfnehngffajiabdoor", sum := "b599a42677d2304890d1cec41b53429c033063ea5ee87a5976ffc906958e7520", func := "trellis/trellislaw25.LexerRuns", spec := "lexerRuns", inPlace := ["internal/bytealg.IndexByteString", "internal/bytealg.IndexString", "internal/abi.NoEscape", "math/bits.Add64", "math/bits.Sub64"], recurses := true, named := ["internal/bytealg.MaxLen", "trellis/radix.signs"], apart := false, laid := [("trellis/radix.signs", laid_trellis_radix_signs)], narrowed := true }
def LexerRunsUptoSaid : Prop := lexerRunsUptoRow.holds Tryd.pinned (OpenSpec.upto lexerRunsSpec)

end Rows
end Go.Proofs.YtdfnehngffajiabDoor
