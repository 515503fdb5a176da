/-
  DERIVED. GIVEN WITH THE SEED: THE CARDS: each row of YtdeamihpgdblkaaDoorRows.lean that lists a variable, with what it lists TIED to the program's text (the seventh form; the later family's looks); each row that meets fmt, with fmt's text TOLD by the authors' own Lean function (tested against real Go, not proved from fmt's source: count such statements apart). THE CARD IS WHAT COUNTS. Prove the row's statement (the work); the ties are given (YtdeamihpgdblkaaDoorTie.lean); close each card by the builder's one call (the guide's Derived/Test/ToyasCard.lean, 'card_holds'). Laid BY PROGRAM, IN A SANDBOX (cutbox-door.mjs). By AI agents, Wed Nov 11 2026. No macro, syntax, notation, axiom, sorry.
-/
import Derived.Test.YtdeamihpgdblkaaDoorRows
import GoSem.ClaimSeven
namespace Go.Proofs.YtdeamihpgdblkaaDoor
namespace Rows

/-- THE TIED CARD OF 'trellislaw04.RadixGroups'. -/
def radixGroupsCard : Claim7 := { stood := { row := radixGroupsRow, standIns := [], harness := (true, "544a2f5d286bfc8f07a17efe26986abed5c5f15775fcd475723486d443d911e9"), looks := false }, kinds := [], alts := [], laidByText := true, laidKinds := [.data, .data, .pinned], laidTests := true, laidLooks := .later }
def RadixGroupsCardSaid : Prop := Claim7.holds Tryd.pinned (.plain (OpenSpec.ofChange radixGroupsSpec)) radixGroupsCard

/-- THE SECOND FORM's CARD OF 'trellislaw04.RadixGroups'. -/
def radixGroupsUptoCard : Claim7 := { stood := { row := radixGroupsUptoRow, standIns := [], harness := (true, "544a2f5d286bfc8f07a17efe26986abed5c5f15775fcd475723486d443d911e9"), looks := false }, kinds := [], alts := [], laidByText := true, laidKinds := [.data, .data, .pinned], laidTests := true, laidLooks := .later }
def RadixGroupsUptoCardSaid : Prop := Claim7.holds Tryd.pinned (.plain (OpenSpec.upto radixGroupsSpec)) radixGroupsUptoCard
end Rows
end Go.Proofs.YtdeamihpgdblkaaDoor
