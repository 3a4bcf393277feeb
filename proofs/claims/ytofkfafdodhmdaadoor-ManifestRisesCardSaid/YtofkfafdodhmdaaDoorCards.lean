/-
  DERIVED. GIVEN WITH THE SEED: THE CARDS: each row of YtofkfafdodhmdaaDoorRows.lean that lists a variable, with what it lists TIED to the program's text (the seventh form; the later family's looks); each row that meets fmt, with fmt's text TOLD by the authors' own Lean function (tested against real Go, not proved from fmt's source: count such statements apart). THE CARD IS WHAT COUNTS. Prove the row's statement (the work); the ties are given (YtofkfafdodhmdaaDoorTie.lean); close each card by the builder's one call (the guide's Derived/Test/ToyasCard.lean, 'card_holds'). Laid BY PROGRAM, IN A SANDBOX (cutbox-door.mjs). By AI agents, Wed Nov 11 2026. No macro, syntax, notation, axiom, sorry.
-/
import Derived.Test.YtofkfafdodhmdaaDoorRows
import GoSem.ClaimSeven
namespace Go.Proofs.YtofkfafdodhmdaaDoor
namespace Rows

/-- THE TIED CARD OF 'joistlaw04.SumAnswers'. -/
def sumAnswersCard : Claim7 := { stood := { row := sumAnswersRow, standIns := [], harness := (true, "12ddd963ab45c2a6125787945b7b2c2cbf15e1ded6694afd29ebdcdf14adbdc8"), looks := true }, kinds := [], alts := [], laidByText := true, laidKinds := [.sentinel], laidTests := true, laidLooks := .later }
def SumAnswersCardSaid : Prop := Claim7.holds Tryd.pinned (.plain (OpenSpec.ofChange sumAnswersSpec)) sumAnswersCard

/-- THE TIED CARD OF 'joistlaw04.SumBack'. -/
def sumBackCard : Claim7 := { stood := { row := sumBackRow, standIns := [], harness := (true, "12ddd963ab45c2a6125787945b7b2c2cbf15e1ded6694afd29ebdcdf14adbdc8"), looks := true }, kinds := [], alts := [], laidByText := true, laidKinds := [.sentinel], laidTests := true, laidLooks := .later }
def SumBackCardSaid : Prop := Claim7.holds Tryd.pinned (.plain (OpenSpec.ofChange sumBackSpec)) sumBackCard

/-- THE TIED CARD OF 'joistlaw04.SumPlaces'. -/
def sumPlacesCard : Claim7 := { stood := { row := sumPlacesRow, standIns := [], harness := (true, "12ddd963ab45c2a6125787945b7b2c2cbf15e1ded6694afd29ebdcdf14adbdc8"), looks := true }, kinds := [], alts := [], laidByText := true, laidKinds := [.sentinel], laidTests := true, laidLooks := .later }
def SumPlacesCardSaid : Prop := Claim7.holds Tryd.pinned (.plain (OpenSpec.ofChange sumPlacesSpec)) sumPlacesCard

/-- THE TIED CARD OF 'joistlaw11.ManifestRises'. -/
def manifestRisesCard : Claim7 := { stood := { row := manifestRisesRow, standIns := [], harness := (true, "12ddd963ab45c2a6125787945b7b2c2cbf15e1ded6694afd29ebdcdf14adbdc8"), looks := true }, kinds := [], alts := [], laidByText := true, laidKinds := [.sentinel], laidTests := true, laidLooks := .later }
def ManifestRisesCardSaid : Prop := Claim7.holds Tryd.pinned (.plain (OpenSpec.ofChange manifestRisesSpec)) manifestRisesCard

/-- THE SECOND FORM's CARD OF 'joistlaw04.SumAnswers'. -/
def sumAnswersUptoCard : Claim7 := { stood := { row := sumAnswersUptoRow, standIns := [], harness := (true, "12ddd963ab45c2a6125787945b7b2c2cbf15e1ded6694afd29ebdcdf14adbdc8"), looks := true }, kinds := [], alts := [], laidByText := true, laidKinds := [.sentinel], laidTests := true, laidLooks := .later }
def SumAnswersUptoCardSaid : Prop := Claim7.holds Tryd.pinned (.plain (OpenSpec.upto sumAnswersSpec)) sumAnswersUptoCard

/-- THE SECOND FORM's CARD OF 'joistlaw04.SumBack'. -/
def sumBackUptoCard : Claim7 := { stood := { row := sumBackUptoRow, standIns := [], harness := (true, "12ddd963ab45c2a6125787945b7b2c2cbf15e1ded6694afd29ebdcdf14adbdc8"), looks := true }, kinds := [], alts := [], laidByText := true, laidKinds := [.sentinel], laidTests := true, laidLooks := .later }
def SumBackUptoCardSaid : Prop := Claim7.holds Tryd.pinned (.plain (OpenSpec.upto sumBackSpec)) sumBackUptoCard

/-- THE SECOND FORM's CARD OF 'joistlaw04.SumPlaces'. -/
def sumPlacesUptoCard : Claim7 := { stood := { row := sumPlacesUptoRow, standIns := [], harness := (true, "12ddd963ab45c2a6125787945b7b2c2cbf15e1ded6694afd29ebdcdf14adbdc8"), looks := true }, kinds := [], alts := [], laidByText := true, laidKinds := [.sentinel], laidTests := true, laidLooks := .later }
def SumPlacesUptoCardSaid : Prop := Claim7.holds Tryd.pinned (.plain (OpenSpec.upto sumPlacesSpec)) sumPlacesUptoCard

/-- THE SECOND FORM's CARD OF 'joistlaw11.ManifestRises'. -/
def manifestRisesUptoCard : Claim7 := { stood := { row := manifestRisesUptoRow, standIns := [], harness := (true, "12ddd963ab45c2a6125787945b7b2c2cbf15e1ded6694afd29ebdcdf14adbdc8"), looks := true }, kinds := [], alts := [], laidByText := true, laidKinds := [.sentinel], laidTests := true, laidLooks := .later }
def ManifestRisesUptoCardSaid : Prop := Claim7.holds Tryd.pinned (.plain (OpenSpec.upto manifestRisesSpec)) manifestRisesUptoCard
end Rows
end Go.Proofs.YtofkfafdodhmdaaDoor
