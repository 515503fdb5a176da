/-
  DERIVED. GIVEN WITH THE SEED: THE CARDS: each row of YtbamffggnnacaaaDoorRows.lean that lists a variable, with what it lists TIED to the program's text (the seventh form; the later family's looks); each row that meets fmt, with fmt's text TOLD by the authors' own Lean function (tested against real Go, not proved from fmt's source: count such statements apart). THE CARD IS WHAT COUNTS. Prove the row's statement (the work); the ties are given (YtbamffggnnacaaaDoorTie.lean); close each card by the builder's one call (the guide's Derived/Test/ToyasCard.lean, 'card_holds'). Laid BY PROGRAM, IN A SANDBOX (cutbox-door.mjs). By AI agents, Wed Nov 11 2026. No macro, syntax, notation, axiom, sorry.
-/
import Derived.Test.YtbamffggnnacaaaDoorRows
import GoSem.ClaimSeven
namespace Go.Proofs.YtbamffggnnacaaaDoor
namespace Rows

/-- THE TIED CARD OF 'trellislaw07.ApproxNearest'. -/
def approxNearestCard : Claim7 := { stood := { row := approxNearestRow, standIns := [], harness := (true, "1435e262add474b6785e8677d3eaf7b7df4b316eae5afa4b2a6486fd74001730"), looks := false }, kinds := [], alts := [], laidByText := true, laidKinds := [.data], laidTests := true, laidLooks := .later }
def ApproxNearestCardSaid : Prop := Claim7.holds Tryd.pinned (.plain (OpenSpec.ofChange approxNearestSpec)) approxNearestCard

/-- THE TIED CARD OF 'trellislaw07.ApproxBack'. -/
def approxBackCard : Claim7 := { stood := { row := approxBackRow, standIns := [], harness := (true, "1435e262add474b6785e8677d3eaf7b7df4b316eae5afa4b2a6486fd74001730"), looks := false }, kinds := [], alts := [], laidByText := true, laidKinds := [.data], laidTests := true, laidLooks := .later }
def ApproxBackCardSaid : Prop := Claim7.holds Tryd.pinned (.plain (OpenSpec.ofChange approxBackSpec)) approxBackCard

/-- THE TIED CARD OF 'trellislaw07.ApproxSums'. -/
def approxSumsCard : Claim7 := { stood := { row := approxSumsRow, standIns := [], harness := (true, "1435e262add474b6785e8677d3eaf7b7df4b316eae5afa4b2a6486fd74001730"), looks := false }, kinds := [], alts := [], laidByText := true, laidKinds := [.data], laidTests := true, laidLooks := .later }
def ApproxSumsCardSaid : Prop := Claim7.holds Tryd.pinned (.plain (OpenSpec.ofChange approxSumsSpec)) approxSumsCard

/-- THE SECOND FORM's CARD OF 'trellislaw07.ApproxNearest'. -/
def approxNearestUptoCard : Claim7 := { stood := { row := approxNearestUptoRow, standIns := [], harness := (true, "1435e262add474b6785e8677d3eaf7b7df4b316eae5afa4b2a6486fd74001730"), looks := false }, kinds := [], alts := [], laidByText := true, laidKinds := [.data], laidTests := true, laidLooks := .later }
def ApproxNearestUptoCardSaid : Prop := Claim7.holds Tryd.pinned (.plain (OpenSpec.upto approxNearestSpec)) approxNearestUptoCard

/-- THE SECOND FORM's CARD OF 'trellislaw07.ApproxBack'. -/
def approxBackUptoCard : Claim7 := { stood := { row := approxBackUptoRow, standIns := [], harness := (true, "1435e262add474b6785e8677d3eaf7b7df4b316eae5afa4b2a6486fd74001730"), looks := false }, kinds := [], alts := [], laidByText := true, laidKinds := [.data], laidTests := true, laidLooks := .later }
def ApproxBackUptoCardSaid : Prop := Claim7.holds Tryd.pinned (.plain (OpenSpec.upto approxBackSpec)) approxBackUptoCard

/-- THE SECOND FORM's CARD OF 'trellislaw07.ApproxSums'. -/
def approxSumsUptoCard : Claim7 := { stood := { row := approxSumsUptoRow, standIns := [], harness := (true, "1435e262add474b6785e8677d3eaf7b7df4b316eae5afa4b2a6486fd74001730"), looks := false }, kinds := [], alts := [], laidByText := true, laidKinds := [.data], laidTests := true, laidLooks := .later }
def ApproxSumsUptoCardSaid : Prop := Claim7.holds Tryd.pinned (.plain (OpenSpec.upto approxSumsSpec)) approxSumsUptoCard
end Rows
end Go.Proofs.YtbamffggnnacaaaDoor
