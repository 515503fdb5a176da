/-
  DERIVED. GIVEN WITH THE SEED: THE CARDS: each row of YtkdobgbicnemcaaGreatDoorRows.lean that lists a variable, with what it lists TIED to the program's text (the seventh form; the later family's looks); each row that meets fmt, with fmt's text TOLD by the authors' own Lean function (tested against real Go, not proved from fmt's source: count such statements apart). THE CARD IS WHAT COUNTS. Prove the row's statement (the work); the ties are given (YtkdobgbicnemcaaGreatDoorTie.lean); close each card by the builder's one call (the guide's Derived/Test/ToyasCard.lean, 'card_holds'). Laid BY PROGRAM, IN A SANDBOX (cutbox-door.mjs). By AI agents, Wed Nov 11 2026. No macro, syntax, notation, axiom, sorry.
-/
import Derived.Test.YtkdobgbicnemcaaGreatDoorRows
import GoSem.ClaimSeven
namespace Go.Proofs.YtkdobgbicnemcaaGreatDoor
namespace Rows

/-- THE TIED CARD OF 'trellislaw05.ZintPlays'. -/
def zintPlaysCard : Claim7 := { stood := { row := zintPlaysRow, standIns := [], harness := (true, "b94ea1bbdf53b2205dd21620b5f594d11b8b91b0233630709bc8234305655bb1"), looks := false }, kinds := [], alts := [], laidByText := true, laidKinds := [.data, .data, .pinned], laidTests := true, laidLooks := .later }
def ZintPlaysCardSaid : Prop := Claim7.holds Tryz.pinned (.plain (OpenSpec.ofChange zintPlaysSpec)) zintPlaysCard

/-- THE TIED CARD OF 'trellislaw05.ZintKeeps'. -/
def zintKeepsCard : Claim7 := { stood := { row := zintKeepsRow, standIns := [], harness := (true, "b94ea1bbdf53b2205dd21620b5f594d11b8b91b0233630709bc8234305655bb1"), looks := false }, kinds := [], alts := [], laidByText := true, laidKinds := [.data, .data, .pinned], laidTests := true, laidLooks := .later }
def ZintKeepsCardSaid : Prop := Claim7.holds Tryz.pinned (.plain (OpenSpec.ofChange zintKeepsSpec)) zintKeepsCard

/-- THE SECOND FORM's CARD OF 'trellislaw05.ZintPlays'. -/
def zintPlaysUptoCard : Claim7 := { stood := { row := zintPlaysUptoRow, standIns := [], harness := (true, "b94ea1bbdf53b2205dd21620b5f594d11b8b91b0233630709bc8234305655bb1"), looks := false }, kinds := [], alts := [], laidByText := true, laidKinds := [.data, .data, .pinned], laidTests := true, laidLooks := .later }
def ZintPlaysUptoCardSaid : Prop := Claim7.holds Tryz.pinned (.plain (OpenSpec.upto zintPlaysSpec)) zintPlaysUptoCard

/-- THE SECOND FORM's CARD OF 'trellislaw05.ZintKeeps'. -/
def zintKeepsUptoCard : Claim7 := { stood := { row := zintKeepsUptoRow, standIns := [], harness := (true, "b94ea1bbdf53b2205dd21620b5f594d11b8b91b0233630709bc8234305655bb1"), looks := false }, kinds := [], alts := [], laidByText := true, laidKinds := [.data, .data, .pinned], laidTests := true, laidLooks := .later }
def ZintKeepsUptoCardSaid : Prop := Claim7.holds Tryz.pinned (.plain (OpenSpec.upto zintKeepsSpec)) zintKeepsUptoCard
end Rows
end Go.Proofs.YtkdobgbicnemcaaGreatDoor
