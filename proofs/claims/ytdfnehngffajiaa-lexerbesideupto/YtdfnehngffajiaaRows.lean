/-
  No cell of these rows narrows 'for every input' (looked for: loops, veiled, ifaces, maps, wideKeys, modest, calm, conditions, laid).
  DERIVED. THE GIVEN ROWS OF THIS SEAT. 3 by the template 'for every input the law returns true; each argument reads behind the call as it read before'; 0 by the template 'total and deterministic' (their statements: YtdfnehngffajiaaTotals.lean).
  GIVEN WITH THE SEED: the statements are not yours to turn. If you find one false, say at which input.
  Laid BY PROGRAM, IN A SANDBOX (cutbox-rows.mjs): the forced cells as the released guide's own fill.sh prints them over the translation 2ad7eaab4bf9b7d4… (all of the seat's roots in one cut). By AI agents, Wed Nov 11 2026. No macro, syntax, notation, axiom, sorry.
-/
import Derived.Test.YtdfnehngffajiaaChecked
import GoSem.Claim
import GoSem.ClaimJoined
import GoSem.ClaimMapViews
import Derived.JoinedTies
import Derived.KernelRfl
namespace Go.Proofs.Ytdfnehngffajiaa
/- THE CELL 'sum', in the pinned program and in every row, IS THE sha256 OF THE DUMP (.gsa) THAT YtdfnehngffajiaaProg.lean LOADS. Nothing in Lean hashes anything: it is a label: what it is worth is what the hold of that sum in a sandbox is worth. -/
noncomputable def Try.pinned : Pinned := { name := "ytdfnehngffajiaa", sum := "2ad7eaab4bf9b7d4246ad5b1c856b327e804c393279fb924c15361912015ef49", checked := Try.checked }
namespace Rows
def none {H : Type} : Left H := { results := [], args := [] }

/-- 'trellislaw25.LexerNames': WHATEVER THE INPUT: true; the input reads as it did. -/
def lexerNamesSpec : ChangeSpec := { name := "lexerNames", fn := fun _ => fun
  | [] => { results := [.lit (.bool true)], args := [] }
  | _ => none }
def lexerNamesRow : OpenClaim := { program := "ytdfnehngffajiaa", sum := "2ad7eaab4bf9b7d4246ad5b1c856b327e804c393279fb924c15361912015ef49", func := "trellis/trellislaw25.LexerNames", spec := "lexerNames", inPlace := ["internal/bytealg.IndexByteString", "internal/bytealg.IndexString"], named := ["internal/bytealg.MaxLen"], apart := false }
def LexerNamesSaid : Prop := lexerNamesRow.holds Try.pinned (OpenSpec.ofChange lexerNamesSpec)

/-- ITS FALSE NEIGHBOUR: 'it returns false'. Refute it at one input. -/
def lexerNamesWrong : ChangeSpec := { name := "lexerNames", fn := fun _ => fun
  | [] => { results := [.lit (.bool false)], args := [] }
  | _ => none }
def LexerNamesWrongFalsely : Prop := lexerNamesRow.holds Try.pinned (OpenSpec.ofChange lexerNamesWrong)

/-- 'trellislaw25.LexerBeside': WHATEVER THE INPUT: true; the input reads as it did. -/
def lexerBesideSpec : ChangeSpec := { name := "lexerBeside", fn := fun _ => fun
  | [d1, d2, d3] => { results := [.lit (.bool true)], args := [d1, d2, d3] }
  | _ => none }
def lexerBesideRow : OpenClaim := { program := "ytdfnehngffajiaa", sum := "2ad7eaab4bf9b7d4246ad5b1c856b327e804c393279fb924c15361912015ef49", func := "trellis/trellislaw25.LexerBeside", spec := "lexerBeside", inPlace := ["internal/bytealg.IndexByteString", "internal/bytealg.IndexString"], named := ["internal/bytealg.MaxLen"], apart := false }
def LexerBesideSaid : Prop := lexerBesideRow.holds Try.pinned (OpenSpec.ofChange lexerBesideSpec)

/-- ITS FALSE NEIGHBOUR: 'it returns false'. Refute it at one input. -/
def lexerBesideWrong : ChangeSpec := { name := "lexerBeside", fn := fun _ => fun
  | [d1, d2, d3] => { results := [.lit (.bool false)], args := [d1, d2, d3] }
  | _ => none }
def LexerBesideWrongFalsely : Prop := lexerBesideRow.holds Try.pinned (OpenSpec.ofChange lexerBesideWrong)

/-- 'trellislaw25.LexerColumns': WHATEVER THE INPUT: true; the input reads as it did. -/
def lexerColumnsSpec : ChangeSpec := { name := "lexerColumns", fn := fun _ => fun
  | [d1, d2] => { results := [.lit (.bool true)], args := [d1, d2] }
  | _ => none }
def lexerColumnsRow : OpenClaim := { program := "ytdfnehngffajiaa", sum := "2ad7eaab4bf9b7d4246ad5b1c856b327e804c393279fb924c15361912015ef49", func := "trellis/trellislaw25.LexerColumns", spec := "lexerColumns", inPlace := ["internal/bytealg.IndexByteString", "internal/bytealg.IndexString"], named := ["internal/bytealg.MaxLen"], apart := false }
def LexerColumnsSaid : Prop := lexerColumnsRow.holds Try.pinned (OpenSpec.ofChange lexerColumnsSpec)

/-- ITS FALSE NEIGHBOUR: 'it returns false'. Refute it at one input. -/
def lexerColumnsWrong : ChangeSpec := { name := "lexerColumns", fn := fun _ => fun
  | [d1, d2] => { results := [.lit (.bool false)], args := [d1, d2] }
  | _ => none }
def LexerColumnsWrongFalsely : Prop := lexerColumnsRow.holds Try.pinned (OpenSpec.ofChange lexerColumnsWrong)

/- THE SECOND FORM. 'bulk': how many values and letters a reading holds, each counted each time it is reached (what is shared counts as often as it is met; a slice's spare places count too). A statement '..UptoSaid' is the law's where the arguments, and the package variables that the reading takes, are together of bulk at most 1048576: NARROWER than '..Said'. Prove '..Said' where nothing that the law and all that it calls make is longer than what came in: it says more and counts as full. Else prove '..UptoSaid'. A law counts once. -/
mutual
def uptoBulk {H : Type} : DataW H → Nat
  | .lit (.string bytes) => bytes.length + 1
  | .lit _ => 1
  | .nil => 1
  | .ptr d => uptoBulk d + 1
  | .slice elems spare => uptoBulkAll elems + uptoBulkAll spare + 1
  | .agg parts => uptoBulkAll parts + 1
  | .iface _ d => uptoBulk d + 1
  | .map entries => uptoBulkEntries entries + 1
  | .held _ => 1
def uptoBulkAll {H : Type} : List (DataW H) → Nat
  | [] => 0
  | d :: r => uptoBulk d + uptoBulkAll r
def uptoBulkEntries {H : Type} : List (Lit × DataW H) → Nat
  | [] => 0
  | x :: r => uptoBulkEntry x + uptoBulkEntries r
def uptoBulkEntry {H : Type} : Lit × DataW H → Nat
  | (.string bytes, d) => bytes.length + uptoBulk d + 1
  | (_, d) => uptoBulk d + 1
 end
def uptoSmall : (H : Type) → List (DataW H) → Bool := fun _ ds => decide (uptoBulkAll ds ≤ 1048576)
def OpenSpec.upto (s : _root_.Go.ChangeSpec) : _root_.Go.OpenSpec := { _root_.Go.OpenSpec.ofChange s with cond := some uptoSmall }

/-- 'trellislaw25.LexerNames', WHERE WHAT IT READS IS OF BULK AT MOST 1048576: true; the input reads as it did. -/
def lexerNamesUptoRow : OpenClaim := { program := "ytdfnehngffajiaa", sum := "2ad7eaab4bf9b7d4246ad5b1c856b327e804c393279fb924c15361912015ef49", func := "trellis/trellislaw25.LexerNames", spec := "lexerNames", inPlace := ["internal/bytealg.IndexByteString", "internal/bytealg.IndexString"], named := ["internal/bytealg.MaxLen"], apart := false, narrowed := true }
def LexerNamesUptoSaid : Prop := lexerNamesUptoRow.holds Try.pinned (OpenSpec.upto lexerNamesSpec)

/-- 'trellislaw25.LexerBeside', WHERE WHAT IT READS IS OF BULK AT MOST 1048576: true; the input reads as it did. -/
def lexerBesideUptoRow : OpenClaim := { program := "ytdfnehngffajiaa", sum := "2ad7eaab4bf9b7d4246ad5b1c856b327e804c393279fb924c15361912015ef49", func := "trellis/trellislaw25.LexerBeside", spec := "lexerBeside", inPlace := ["internal/bytealg.IndexByteString", "internal/bytealg.IndexString"], named := ["internal/bytealg.MaxLen"], apart := false, narrowed := true }
def LexerBesideUptoSaid : Prop := lexerBesideUptoRow.holds Try.pinned (OpenSpec.upto lexerBesideSpec)

/-- 'trellislaw25.LexerColumns', WHERE WHAT IT READS IS OF BULK AT MOST 1048576: true; the input reads as it did. -/
def lexerColumnsUptoRow : OpenClaim := { program := "ytdfnehngffajiaa", sum := "2ad7eaab4bf9b7d4246ad5b1c856b327e804c393279fb924c15361912015ef49", func := "trellis/trellislaw25.LexerColumns", spec := "lexerColumns", inPlace := ["internal/bytealg.IndexByteString", "internal/bytealg.IndexString"], named := ["internal/bytealg.MaxLen"], apart := false, narrowed := true }
def LexerColumnsUptoSaid : Prop := lexerColumnsUptoRow.holds Try.pinned (OpenSpec.upto lexerColumnsSpec)

end Rows
end Go.Proofs.Ytdfnehngffajiaa
