/-
  DERIVED. GIVEN WITH THE SEED: THE CARDS: each row of YtdhmbalkclbhpaaGreatDoorRows.lean that lists a variable, with what it lists TIED to the program's text (the seventh form; the later family's looks); each row that meets fmt, with fmt's text TOLD by the authors' own Lean function (tested against real Go, not proved from fmt's source: count such statements apart). THE CARD IS WHAT COUNTS. Prove the row's statement (the work); the ties are given (YtdhmbalkclbhpaaGreatDoorTie.lean); close each card by the builder's one call (the guide's Derived/Test/ToyasCard.lean, 'card_holds'). Laid BY PROGRAM, IN A SANDBOX (cutbox-door.mjs). By AI agents, Wed Nov 11 2026. No macro, syntax, notation, axiom, sorry.
-/
import Derived.Test.YtdhmbalkclbhpaaGreatDoorRows
import GoSem.ClaimSeven
namespace Go.Proofs.YtdhmbalkclbhpaaGreatDoor
namespace Rows

/-- THE TIED CARD OF 'trellislaw07.ApproxRounds'. -/
def approxRoundsCard : Claim7 := { stood := { row := approxRoundsRow, standIns := [], harness := (true, "6f2180c880a55f89a9f1cca2defb7bdee50362b880811e79da5817129fede695"), looks := false }, kinds := [], alts := [], laidByText := true, laidKinds := [.data, .data, .data, .data, .data, .pinned], laidTests := true, laidLooks := .later }
def ApproxRoundsCardSaid : Prop := Claim7.holds Tryz.pinned (.plain (OpenSpec.ofChange approxRoundsSpec)) approxRoundsCard

/-- THE SECOND FORM's CARD OF 'trellislaw07.ApproxRounds'. -/
def approxRoundsUptoCard : Claim7 := { stood := { row := approxRoundsUptoRow, standIns := [], harness := (true, "6f2180c880a55f89a9f1cca2defb7bdee50362b880811e79da5817129fede695"), looks := false }, kinds := [], alts := [], laidByText := true, laidKinds := [.data, .data, .data, .data, .data, .pinned], laidTests := true, laidLooks := .later }
def ApproxRoundsUptoCardSaid : Prop := Claim7.holds Tryz.pinned (.plain (OpenSpec.upto approxRoundsSpec)) approxRoundsUptoCard
end Rows
end Go.Proofs.YtdhmbalkclbhpaaGreatDoor
