/-
  DERIVED. GIVEN WITH THE SEED: THE CARDS: each row of YtagfekcocdjhlaaDoorRows.lean that lists a variable, with what it lists TIED to the program's text (the seventh form; the later family's looks); each row that meets fmt, with fmt's text TOLD by the authors' own Lean function (tested against real Go, not proved from fmt's source: count such statements apart). THE CARD IS WHAT COUNTS. Prove the row's statement (the work); the ties are given (YtagfekcocdjhlaaDoorTie.lean); close each card by the builder's one call (the guide's Derived/Test/ToyasCard.lean, 'card_holds'). Laid BY PROGRAM, IN A SANDBOX (cutbox-door.mjs). By AI agents, Wed Nov 11 2026. No macro, syntax, notation, axiom, sorry.
-/
import Derived.Test.YtagfekcocdjhlaaDoorRows
import GoSem.ClaimSeven
namespace Go.Proofs.YtagfekcocdjhlaaDoor
namespace Rows

/-- THE TIED CARD OF 'trellislaw01.NatKeeps'. -/
def natKeepsCard : Claim7 := { stood := { row := natKeepsRow, standIns := [], harness := (true, "9edac5175f1a6ceced267ee76a4dfcfe5c44726f218b2fceeb2859f23c73c469"), looks := false }, kinds := [], alts := [], laidByText := true, laidKinds := [.data], laidTests := true, laidLooks := .later }
def NatKeepsCardSaid : Prop := Claim7.holds Tryd.pinned (.plain (OpenSpec.ofChange natKeepsSpec)) natKeepsCard

/-- THE TIED CARD OF 'trellislaw02.MulnatOrder'. -/
def mulnatOrderCard : Claim7 := { stood := { row := mulnatOrderRow, standIns := [], harness := (true, "9edac5175f1a6ceced267ee76a4dfcfe5c44726f218b2fceeb2859f23c73c469"), looks := false }, kinds := [], alts := [], laidByText := true, laidKinds := [.data], laidTests := true, laidLooks := .later }
def MulnatOrderCardSaid : Prop := Claim7.holds Tryd.pinned (.plain (OpenSpec.ofChange mulnatOrderSpec)) mulnatOrderCard

/-- THE SECOND FORM's CARD OF 'trellislaw01.NatKeeps'. -/
def natKeepsUptoCard : Claim7 := { stood := { row := natKeepsUptoRow, standIns := [], harness := (true, "9edac5175f1a6ceced267ee76a4dfcfe5c44726f218b2fceeb2859f23c73c469"), looks := false }, kinds := [], alts := [], laidByText := true, laidKinds := [.data], laidTests := true, laidLooks := .later }
def NatKeepsUptoCardSaid : Prop := Claim7.holds Tryd.pinned (.plain (OpenSpec.upto natKeepsSpec)) natKeepsUptoCard

/-- THE SECOND FORM's CARD OF 'trellislaw02.MulnatOrder'. -/
def mulnatOrderUptoCard : Claim7 := { stood := { row := mulnatOrderUptoRow, standIns := [], harness := (true, "9edac5175f1a6ceced267ee76a4dfcfe5c44726f218b2fceeb2859f23c73c469"), looks := false }, kinds := [], alts := [], laidByText := true, laidKinds := [.data], laidTests := true, laidLooks := .later }
def MulnatOrderUptoCardSaid : Prop := Claim7.holds Tryd.pinned (.plain (OpenSpec.upto mulnatOrderSpec)) mulnatOrderUptoCard
end Rows
end Go.Proofs.YtagfekcocdjhlaaDoor
