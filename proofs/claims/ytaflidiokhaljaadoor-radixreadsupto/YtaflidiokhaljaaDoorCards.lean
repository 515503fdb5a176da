/-
  DERIVED. GIVEN WITH THE SEED: THE CARDS: each row of YtaflidiokhaljaaDoorRows.lean that lists a variable, with what it lists TIED to the program's text (the seventh form; the later family's looks); each row that meets fmt, with fmt's text TOLD by the authors' own Lean function (tested against real Go, not proved from fmt's source: count such statements apart). THE CARD IS WHAT COUNTS. Prove the row's statement (the work); the ties are given (YtaflidiokhaljaaDoorTie.lean); close each card by the builder's one call (the guide's Derived/Test/ToyasCard.lean, 'card_holds'). Laid BY PROGRAM, IN A SANDBOX (cutbox-door.mjs). By AI agents, Wed Nov 11 2026. No macro, syntax, notation, axiom, sorry.
-/
import Derived.Test.YtaflidiokhaljaaDoorRows
import GoSem.ClaimSeven
namespace Go.Proofs.YtaflidiokhaljaaDoor
namespace Rows

/-- THE TIED CARD OF 'trellislaw04.RadixTexts'. -/
def radixTextsCard : Claim7 := { stood := { row := radixTextsRow, standIns := [], harness := (true, "74c2ec4ed279688b327b127db0402e8b5a421f53247fcd85226dbd4d68da1b01"), looks := false }, kinds := [], alts := [], laidByText := true, laidKinds := [.data, .data, .pinned], laidTests := true, laidLooks := .later }
def RadixTextsCardSaid : Prop := Claim7.holds Tryd.pinned (.plain (OpenSpec.ofChange radixTextsSpec)) radixTextsCard

/-- THE TIED CARD OF 'trellislaw04.RadixReads'. -/
def radixReadsCard : Claim7 := { stood := { row := radixReadsRow, standIns := [], harness := (true, "74c2ec4ed279688b327b127db0402e8b5a421f53247fcd85226dbd4d68da1b01"), looks := false }, kinds := [], alts := [], laidByText := true, laidKinds := [.data, .data, .pinned], laidTests := true, laidLooks := .later }
def RadixReadsCardSaid : Prop := Claim7.holds Tryd.pinned (.plain (OpenSpec.ofChange radixReadsSpec)) radixReadsCard

/-- THE TIED CARD OF 'trellislaw04.RadixAll'. -/
def radixAllCard : Claim7 := { stood := { row := radixAllRow, standIns := [], harness := (true, "74c2ec4ed279688b327b127db0402e8b5a421f53247fcd85226dbd4d68da1b01"), looks := false }, kinds := [], alts := [], laidByText := true, laidKinds := [.data, .data, .pinned], laidTests := true, laidLooks := .later }
def RadixAllCardSaid : Prop := Claim7.holds Tryd.pinned (.plain (OpenSpec.ofChange radixAllSpec)) radixAllCard

/-- THE SECOND FORM's CARD OF 'trellislaw04.RadixTexts'. -/
def radixTextsUptoCard : Claim7 := { stood := { row := radixTextsUptoRow, standIns := [], harness := (true, "74c2ec4ed279688b327b127db0402e8b5a421f53247fcd85226dbd4d68da1b01"), looks := false }, kinds := [], alts := [], laidByText := true, laidKinds := [.data, .data, .pinned], laidTests := true, laidLooks := .later }
def RadixTextsUptoCardSaid : Prop := Claim7.holds Tryd.pinned (.plain (OpenSpec.upto radixTextsSpec)) radixTextsUptoCard

/-- THE SECOND FORM's CARD OF 'trellislaw04.RadixReads'. -/
def radixReadsUptoCard : Claim7 := { stood := { row := radixReadsUptoRow, standIns := [], harness := (true, "74c2ec4ed279688b327b127db0402e8b5a421f53247fcd85226dbd4d68da1b01"), looks := false }, kinds := [], alts := [], laidByText := true, laidKinds := [.data, .data, .pinned], laidTests := true, laidLooks := .later }
def RadixReadsUptoCardSaid : Prop := Claim7.holds Tryd.pinned (.plain (OpenSpec.upto radixReadsSpec)) radixReadsUptoCard

/-- THE SECOND FORM's CARD OF 'trellislaw04.RadixAll'. -/
def radixAllUptoCard : Claim7 := { stood := { row := radixAllUptoRow, standIns := [], harness := (true, "74c2ec4ed279688b327b127db0402e8b5a421f53247fcd85226dbd4d68da1b01"), looks := false }, kinds := [], alts := [], laidByText := true, laidKinds := [.data, .data, .pinned], laidTests := true, laidLooks := .later }
def RadixAllUptoCardSaid : Prop := Claim7.holds Tryd.pinned (.plain (OpenSpec.upto radixAllSpec)) radixAllUptoCard
end Rows
end Go.Proofs.YtaflidiokhaljaaDoor
