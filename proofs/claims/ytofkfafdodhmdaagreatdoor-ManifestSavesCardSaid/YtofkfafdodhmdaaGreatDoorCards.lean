/-
  DERIVED. GIVEN WITH THE SEED: THE CARDS: each row of YtofkfafdodhmdaaGreatDoorRows.lean that lists a variable, with what it lists TIED to the program's text (the seventh form; the later family's looks); each row that meets fmt, with fmt's text TOLD by the authors' own Lean function (tested against real Go, not proved from fmt's source: count such statements apart). THE CARD IS WHAT COUNTS. Prove the row's statement (the work); the ties are given (YtofkfafdodhmdaaGreatDoorTie.lean); close each card by the builder's one call (the guide's Derived/Test/ToyasCard.lean, 'card_holds'). Laid BY PROGRAM, IN A SANDBOX (cutbox-door.mjs). By AI agents, Wed Nov 11 2026. No macro, syntax, notation, axiom, sorry.
-/
import Derived.Test.YtofkfafdodhmdaaGreatDoorRows
import GoSem.ClaimSeven
namespace Go.Proofs.YtofkfafdodhmdaaGreatDoor
namespace Rows

/-- THE TIED CARD OF 'joistlaw11.ManifestBytes'. -/
def manifestBytesCard : Claim7 := { stood := { row := manifestBytesRow, standIns := [], harness := (true, "1aab734035d2054db73155e15dc4bf0d20c1299c1f16055e0049d48424d17947"), looks := true }, kinds := [], alts := [], laidByText := true, laidKinds := [.sentinel], laidTests := true, laidLooks := .later }
def ManifestBytesCardSaid : Prop := Claim7.holds Tryz.pinned (.plain (OpenSpec.ofChange manifestBytesSpec)) manifestBytesCard

/-- THE TIED CARD OF 'joistlaw11.ManifestSaves'. -/
def manifestSavesCard : Claim7 := { stood := { row := manifestSavesRow, standIns := [], harness := (true, "1aab734035d2054db73155e15dc4bf0d20c1299c1f16055e0049d48424d17947"), looks := true }, kinds := [], alts := [], laidByText := true, laidKinds := [.sentinel], laidTests := true, laidLooks := .later }
def ManifestSavesCardSaid : Prop := Claim7.holds Tryz.pinned (.plain (OpenSpec.ofChange manifestSavesSpec)) manifestSavesCard

/-- THE TIED CARD OF 'joistlaw11.ManifestCrash'. -/
def manifestCrashCard : Claim7 := { stood := { row := manifestCrashRow, standIns := [], harness := (true, "1aab734035d2054db73155e15dc4bf0d20c1299c1f16055e0049d48424d17947"), looks := true }, kinds := [], alts := [], laidByText := true, laidKinds := [.sentinel], laidTests := true, laidLooks := .later }
def ManifestCrashCardSaid : Prop := Claim7.holds Tryz.pinned (.plain (OpenSpec.ofChange manifestCrashSpec)) manifestCrashCard

/-- THE TIED CARD OF 'joistlaw11.ManifestBits'. -/
def manifestBitsCard : Claim7 := { stood := { row := manifestBitsRow, standIns := [], harness := (true, "1aab734035d2054db73155e15dc4bf0d20c1299c1f16055e0049d48424d17947"), looks := true }, kinds := [], alts := [], laidByText := true, laidKinds := [.sentinel], laidTests := true, laidLooks := .later }
def ManifestBitsCardSaid : Prop := Claim7.holds Tryz.pinned (.plain (OpenSpec.ofChange manifestBitsSpec)) manifestBitsCard

/-- THE SECOND FORM's CARD OF 'joistlaw11.ManifestBytes'. -/
def manifestBytesUptoCard : Claim7 := { stood := { row := manifestBytesUptoRow, standIns := [], harness := (true, "1aab734035d2054db73155e15dc4bf0d20c1299c1f16055e0049d48424d17947"), looks := true }, kinds := [], alts := [], laidByText := true, laidKinds := [.sentinel], laidTests := true, laidLooks := .later }
def ManifestBytesUptoCardSaid : Prop := Claim7.holds Tryz.pinned (.plain (OpenSpec.upto manifestBytesSpec)) manifestBytesUptoCard

/-- THE SECOND FORM's CARD OF 'joistlaw11.ManifestSaves'. -/
def manifestSavesUptoCard : Claim7 := { stood := { row := manifestSavesUptoRow, standIns := [], harness := (true, "1aab734035d2054db73155e15dc4bf0d20c1299c1f16055e0049d48424d17947"), looks := true }, kinds := [], alts := [], laidByText := true, laidKinds := [.sentinel], laidTests := true, laidLooks := .later }
def ManifestSavesUptoCardSaid : Prop := Claim7.holds Tryz.pinned (.plain (OpenSpec.upto manifestSavesSpec)) manifestSavesUptoCard

/-- THE SECOND FORM's CARD OF 'joistlaw11.ManifestCrash'. -/
def manifestCrashUptoCard : Claim7 := { stood := { row := manifestCrashUptoRow, standIns := [], harness := (true, "1aab734035d2054db73155e15dc4bf0d20c1299c1f16055e0049d48424d17947"), looks := true }, kinds := [], alts := [], laidByText := true, laidKinds := [.sentinel], laidTests := true, laidLooks := .later }
def ManifestCrashUptoCardSaid : Prop := Claim7.holds Tryz.pinned (.plain (OpenSpec.upto manifestCrashSpec)) manifestCrashUptoCard

/-- THE SECOND FORM's CARD OF 'joistlaw11.ManifestBits'. -/
def manifestBitsUptoCard : Claim7 := { stood := { row := manifestBitsUptoRow, standIns := [], harness := (true, "1aab734035d2054db73155e15dc4bf0d20c1299c1f16055e0049d48424d17947"), looks := true }, kinds := [], alts := [], laidByText := true, laidKinds := [.sentinel], laidTests := true, laidLooks := .later }
def ManifestBitsUptoCardSaid : Prop := Claim7.holds Tryz.pinned (.plain (OpenSpec.upto manifestBitsSpec)) manifestBitsUptoCard
end Rows
end Go.Proofs.YtofkfafdodhmdaaGreatDoor
