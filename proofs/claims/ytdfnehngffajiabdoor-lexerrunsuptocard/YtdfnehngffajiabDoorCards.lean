/-
  DERIVED. GIVEN WITH THE SEED: THE CARDS: each row of YtdfnehngffajiabDoorRows.lean that lists a variable, with what it lists TIED to the program's text (the seventh form; the later family's looks); each row that meets fmt, with fmt's text TOLD by the authors' own Lean function (tested against real Go, not proved from fmt's source: count such statements apart). THE CARD IS WHAT COUNTS. Prove the row's statement (the work); the ties are given (YtdfnehngffajiabDoorTie.lean); close each card by the builder's one call (the guide's Derived/Test/ToyasCard.lean, 'card_holds'). Laid BY PROGRAM, IN A SANDBOX (cutbox-door.mjs). By AI agents, Wed Nov 11 2026. No macro, syntax, notation, axiom, sorry.
-/
import Derived.Test.YtdfnehngffajiabDoorRows
import GoSem.ClaimSeven
namespace Go.Proofs.YtdfnehngffajiabDoor
namespace Rows

/-- THE TIED CARD OF 'trellislaw25.LexerWhole'. -/
def lexerWholeCard : Claim7 := { stood := { row := lexerWholeRow, standIns := [], harness := (true, "4a039fff9d640e1fd21cf0954d37eb37c6d00c77dc02cadc7adaf8498f0e90eb"), looks := false }, kinds := [], alts := [], laidByText := true, laidKinds := [.data], laidTests := true, laidLooks := .later }
def LexerWholeCardSaid : Prop := Claim7.holds Tryd.pinned (.plain (OpenSpec.ofChange lexerWholeSpec)) lexerWholeCard

/-- THE TIED CARD OF 'trellislaw25.LexerRuns'. -/
def lexerRunsCard : Claim7 := { stood := { row := lexerRunsRow, standIns := [], harness := (true, "4a039fff9d640e1fd21cf0954d37eb37c6d00c77dc02cadc7adaf8498f0e90eb"), looks := false }, kinds := [], alts := [], laidByText := true, laidKinds := [.data], laidTests := true, laidLooks := .later }
def LexerRunsCardSaid : Prop := Claim7.holds Tryd.pinned (.plain (OpenSpec.ofChange lexerRunsSpec)) lexerRunsCard

/-- THE SECOND FORM's CARD OF 'trellislaw25.LexerWhole'. -/
def lexerWholeUptoCard : Claim7 := { stood := { row := lexerWholeUptoRow, standIns := [], harness := (true, "4a039fff9d640e1fd21cf0954d37eb37c6d00c77dc02cadc7adaf8498f0e90eb"), looks := false }, kinds := [], alts := [], laidByText := true, laidKinds := [.data], laidTests := true, laidLooks := .later }
def LexerWholeUptoCardSaid : Prop := Claim7.holds Tryd.pinned (.plain (OpenSpec.upto lexerWholeSpec)) lexerWholeUptoCard

/-- THE SECOND FORM's CARD OF 'trellislaw25.LexerRuns'. -/
def lexerRunsUptoCard : Claim7 := { stood := { row := lexerRunsUptoRow, standIns := [], harness := (true, "4a039fff9d640e1fd21cf0954d37eb37c6d00c77dc02cadc7adaf8498f0e90eb"), looks := false }, kinds := [], alts := [], laidByText := true, laidKinds := [.data], laidTests := true, laidLooks := .later }
def LexerRunsUptoCardSaid : Prop := Claim7.holds Tryd.pinned (.plain (OpenSpec.upto lexerRunsSpec)) lexerRunsUptoCard
end Rows
end Go.Proofs.YtdfnehngffajiabDoor
