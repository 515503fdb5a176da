/-
  DERIVED. GIVEN WITH THE SEED: THE CARDS: each row of YthgnjjpoondidaaDoorRows.lean that lists a variable, with what it lists TIED to the program's text (the seventh form; the later family's looks); each row that meets fmt, with fmt's text TOLD by the authors' own Lean function (tested against real Go, not proved from fmt's source: count such statements apart). THE CARD IS WHAT COUNTS. Prove the row's statement (the work); the ties are given (YthgnjjpoondidaaDoorTie.lean); close each card by the builder's one call (the guide's Derived/Test/ToyasCard.lean, 'card_holds'). Laid BY PROGRAM, IN A SANDBOX (cutbox-door.mjs). By AI agents, Wed Nov 11 2026. No macro, syntax, notation, axiom, sorry.
-/
import Derived.Test.YthgnjjpoondidaaDoorRows
import GoSem.ClaimSeven
namespace Go.Proofs.YthgnjjpoondidaaDoor
namespace Rows

/-- THE TIED CARD OF 'trellislaw01.NatAll'. -/
def natAllCard : Claim7 := { stood := { row := natAllRow, standIns := [], harness := (true, "901318dca1f27020fbc8814f883ddc1fc0555a0a41cea3c88828a388010dac2a"), looks := false }, kinds := [], alts := [], laidByText := true, laidKinds := [.data], laidTests := true, laidLooks := .later }
def NatAllCardSaid : Prop := Claim7.holds Tryd.pinned (.plain (OpenSpec.ofChange natAllSpec)) natAllCard

/-- THE TIED CARD OF 'trellislaw01.NatKeeps'. -/
def natKeepsCard : Claim7 := { stood := { row := natKeepsRow, standIns := [], harness := (true, "901318dca1f27020fbc8814f883ddc1fc0555a0a41cea3c88828a388010dac2a"), looks := false }, kinds := [], alts := [], laidByText := true, laidKinds := [.data], laidTests := true, laidLooks := .later }
def NatKeepsCardSaid : Prop := Claim7.holds Tryd.pinned (.plain (OpenSpec.ofChange natKeepsSpec)) natKeepsCard

/-- THE TIED CARD OF 'trellislaw01.NatHalves'. -/
def natHalvesCard : Claim7 := { stood := { row := natHalvesRow, standIns := [], harness := (true, "901318dca1f27020fbc8814f883ddc1fc0555a0a41cea3c88828a388010dac2a"), looks := false }, kinds := [], alts := [], laidByText := true, laidKinds := [.data], laidTests := true, laidLooks := .later }
def NatHalvesCardSaid : Prop := Claim7.holds Tryd.pinned (.plain (OpenSpec.ofChange natHalvesSpec)) natHalvesCard

/-- THE TIED CARD OF 'trellislaw01.NatDigits'. -/
def natDigitsCard : Claim7 := { stood := { row := natDigitsRow, standIns := [], harness := (true, "901318dca1f27020fbc8814f883ddc1fc0555a0a41cea3c88828a388010dac2a"), looks := false }, kinds := [], alts := [], laidByText := true, laidKinds := [.data], laidTests := true, laidLooks := .later }
def NatDigitsCardSaid : Prop := Claim7.holds Tryd.pinned (.plain (OpenSpec.ofChange natDigitsSpec)) natDigitsCard

/-- THE SECOND FORM's CARD OF 'trellislaw01.NatAll'. -/
def natAllUptoCard : Claim7 := { stood := { row := natAllUptoRow, standIns := [], harness := (true, "901318dca1f27020fbc8814f883ddc1fc0555a0a41cea3c88828a388010dac2a"), looks := false }, kinds := [], alts := [], laidByText := true, laidKinds := [.data], laidTests := true, laidLooks := .later }
def NatAllUptoCardSaid : Prop := Claim7.holds Tryd.pinned (.plain (OpenSpec.upto natAllSpec)) natAllUptoCard

/-- THE SECOND FORM's CARD OF 'trellislaw01.NatKeeps'. -/
def natKeepsUptoCard : Claim7 := { stood := { row := natKeepsUptoRow, standIns := [], harness := (true, "901318dca1f27020fbc8814f883ddc1fc0555a0a41cea3c88828a388010dac2a"), looks := false }, kinds := [], alts := [], laidByText := true, laidKinds := [.data], laidTests := true, laidLooks := .later }
def NatKeepsUptoCardSaid : Prop := Claim7.holds Tryd.pinned (.plain (OpenSpec.upto natKeepsSpec)) natKeepsUptoCard

/-- THE SECOND FORM's CARD OF 'trellislaw01.NatHalves'. -/
def natHalvesUptoCard : Claim7 := { stood := { row := natHalvesUptoRow, standIns := [], harness := (true, "901318dca1f27020fbc8814f883ddc1fc0555a0a41cea3c88828a388010dac2a"), looks := false }, kinds := [], alts := [], laidByText := true, laidKinds := [.data], laidTests := true, laidLooks := .later }
def NatHalvesUptoCardSaid : Prop := Claim7.holds Tryd.pinned (.plain (OpenSpec.upto natHalvesSpec)) natHalvesUptoCard

/-- THE SECOND FORM's CARD OF 'trellislaw01.NatDigits'. -/
def natDigitsUptoCard : Claim7 := { stood := { row := natDigitsUptoRow, standIns := [], harness := (true, "901318dca1f27020fbc8814f883ddc1fc0555a0a41cea3c88828a388010dac2a"), looks := false }, kinds := [], alts := [], laidByText := true, laidKinds := [.data], laidTests := true, laidLooks := .later }
def NatDigitsUptoCardSaid : Prop := Claim7.holds Tryd.pinned (.plain (OpenSpec.upto natDigitsSpec)) natDigitsUptoCard
end Rows
end Go.Proofs.YthgnjjpoondidaaDoor
