/-
  DERIVED. GIVEN WITH THE SEED: THE CARDS: each row of YtiiemeigbnnlpaaGreatDoorRows.lean that lists a variable, with what it lists TIED to the program's text (the seventh form; the later family's looks); each row that meets fmt, with fmt's text TOLD by the authors' own Lean function (tested against real Go, not proved from fmt's source: count such statements apart). THE CARD IS WHAT COUNTS. Prove the row's statement (the work); the ties are given (YtiiemeigbnnlpaaGreatDoorTie.lean); close each card by the builder's one call (the guide's Derived/Test/ToyasCard.lean, 'card_holds'). Laid BY PROGRAM, IN A SANDBOX (cutbox-door.mjs). By AI agents, Wed Nov 11 2026. No macro, syntax, notation, axiom, sorry.
-/
import Derived.Test.YtiiemeigbnnlpaaGreatDoorRows
import GoSem.ClaimSeven
namespace Go.Proofs.YtiiemeigbnnlpaaGreatDoor
namespace Rows

/-- THE TIED CARD OF 'trellislaw04.RadixKeeps'. -/
def radixKeepsCard : Claim7 := { stood := { row := radixKeepsRow, standIns := [], harness := (true, "0c71cd2596998f1c8fd972b5627f5c445eba6bf37e90aff10a5faa8fa342453b"), looks := false }, kinds := [], alts := [], laidByText := true, laidKinds := [.data, .data, .pinned], laidTests := true, laidLooks := .later }
def RadixKeepsCardSaid : Prop := Claim7.holds Tryz.pinned (.plain (OpenSpec.ofChange radixKeepsSpec)) radixKeepsCard

/-- THE SECOND FORM's CARD OF 'trellislaw04.RadixKeeps'. -/
def radixKeepsUptoCard : Claim7 := { stood := { row := radixKeepsUptoRow, standIns := [], harness := (true, "0c71cd2596998f1c8fd972b5627f5c445eba6bf37e90aff10a5faa8fa342453b"), looks := false }, kinds := [], alts := [], laidByText := true, laidKinds := [.data, .data, .pinned], laidTests := true, laidLooks := .later }
def RadixKeepsUptoCardSaid : Prop := Claim7.holds Tryz.pinned (.plain (OpenSpec.upto radixKeepsSpec)) radixKeepsUptoCard
end Rows
end Go.Proofs.YtiiemeigbnnlpaaGreatDoor
