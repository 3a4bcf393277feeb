/-
  DERIVED. GIVEN WITH THE SEED: THE CARDS: each row of YtadehoibjpmhhaaDoorRows.lean that lists a variable, with what it lists TIED to the program's text (the seventh form; the later family's looks); each row that meets fmt, with fmt's text TOLD by the authors' own Lean function (tested against real Go, not proved from fmt's source: count such statements apart). THE CARD IS WHAT COUNTS. Prove the row's statement (the work); the ties are given (YtadehoibjpmhhaaDoorTie.lean); close each card by the builder's one call (the guide's Derived/Test/ToyasCard.lean, 'card_holds'). Laid BY PROGRAM, IN A SANDBOX (cutbox-door.mjs). By AI agents, Wed Nov 11 2026. No macro, syntax, notation, axiom, sorry.
-/
import Derived.Test.YtadehoibjpmhhaaDoorRows
import GoSem.ClaimSeven
namespace Go.Proofs.YtadehoibjpmhhaaDoor
namespace Rows

/-- THE TIED CARD OF 'joistlaw03.CodecCells'. -/
def codecCellsCard : Claim7 := { stood := { row := codecCellsRow, standIns := [], harness := (true, "6b08b567caf081dd8aaf8671ea3d291ea2968040fcecf3d37f921bb94594aedd"), looks := true }, kinds := [], alts := [], laidByText := true, laidKinds := [.data, .sentinel, .pinned], laidTests := true, laidLooks := .later }
def CodecCellsCardSaid : Prop := Claim7.holds Tryd.pinned (.plain (OpenSpec.ofChange codecCellsSpec)) codecCellsCard

/-- THE TIED CARD OF 'joistlaw03.CodecReads'. -/
def codecReadsCard : Claim7 := { stood := { row := codecReadsRow, standIns := [], harness := (true, "6b08b567caf081dd8aaf8671ea3d291ea2968040fcecf3d37f921bb94594aedd"), looks := true }, kinds := [], alts := [], laidByText := true, laidKinds := [.data, .sentinel, .pinned], laidTests := true, laidLooks := .later }
def CodecReadsCardSaid : Prop := Claim7.holds Tryd.pinned (.plain (OpenSpec.ofChange codecReadsSpec)) codecReadsCard

/-- THE TIED CARD OF 'joistlaw03.CodecOrder'. -/
def codecOrderCard : Claim7 := { stood := { row := codecOrderRow, standIns := [], harness := (true, "6b08b567caf081dd8aaf8671ea3d291ea2968040fcecf3d37f921bb94594aedd"), looks := true }, kinds := [], alts := [], laidByText := true, laidKinds := [.data, .sentinel, .pinned], laidTests := true, laidLooks := .later }
def CodecOrderCardSaid : Prop := Claim7.holds Tryd.pinned (.plain (OpenSpec.ofChange codecOrderSpec)) codecOrderCard

/-- THE TIED CARD OF 'joistlaw03.CodecRows'. -/
def codecRowsCard : Claim7 := { stood := { row := codecRowsRow, standIns := [], harness := (true, "6b08b567caf081dd8aaf8671ea3d291ea2968040fcecf3d37f921bb94594aedd"), looks := true }, kinds := [], alts := [], laidByText := true, laidKinds := [.data, .sentinel, .pinned], laidTests := true, laidLooks := .later }
def CodecRowsCardSaid : Prop := Claim7.holds Tryd.pinned (.plain (OpenSpec.ofChange codecRowsSpec)) codecRowsCard

/-- THE TIED CARD OF 'joistlaw03.CodecBack'. -/
def codecBackCard : Claim7 := { stood := { row := codecBackRow, standIns := [], harness := (true, "6b08b567caf081dd8aaf8671ea3d291ea2968040fcecf3d37f921bb94594aedd"), looks := true }, kinds := [], alts := [], laidByText := true, laidKinds := [.data, .sentinel, .pinned], laidTests := true, laidLooks := .later }
def CodecBackCardSaid : Prop := Claim7.holds Tryd.pinned (.plain (OpenSpec.ofChange codecBackSpec)) codecBackCard

/-- THE TIED CARD OF 'joistlaw03.CodecLate'. -/
def codecLateCard : Claim7 := { stood := { row := codecLateRow, standIns := [], harness := (true, "6b08b567caf081dd8aaf8671ea3d291ea2968040fcecf3d37f921bb94594aedd"), looks := true }, kinds := [], alts := [], laidByText := true, laidKinds := [.data, .sentinel, .pinned], laidTests := true, laidLooks := .later }
def CodecLateCardSaid : Prop := Claim7.holds Tryd.pinned (.plain (OpenSpec.ofChange codecLateSpec)) codecLateCard

/-- THE TIED CARD OF 'joistlaw04.SumAnswers'. -/
def sumAnswersCard : Claim7 := { stood := { row := sumAnswersRow, standIns := [], harness := (true, "6b08b567caf081dd8aaf8671ea3d291ea2968040fcecf3d37f921bb94594aedd"), looks := true }, kinds := [], alts := [], laidByText := true, laidKinds := [.sentinel], laidTests := true, laidLooks := .later }
def SumAnswersCardSaid : Prop := Claim7.holds Tryd.pinned (.plain (OpenSpec.ofChange sumAnswersSpec)) sumAnswersCard

/-- THE TIED CARD OF 'joistlaw04.SumBack'. -/
def sumBackCard : Claim7 := { stood := { row := sumBackRow, standIns := [], harness := (true, "6b08b567caf081dd8aaf8671ea3d291ea2968040fcecf3d37f921bb94594aedd"), looks := true }, kinds := [], alts := [], laidByText := true, laidKinds := [.sentinel], laidTests := true, laidLooks := .later }
def SumBackCardSaid : Prop := Claim7.holds Tryd.pinned (.plain (OpenSpec.ofChange sumBackSpec)) sumBackCard

/-- THE TIED CARD OF 'joistlaw04.SumBits'. -/
def sumBitsCard : Claim7 := { stood := { row := sumBitsRow, standIns := [], harness := (true, "6b08b567caf081dd8aaf8671ea3d291ea2968040fcecf3d37f921bb94594aedd"), looks := true }, kinds := [], alts := [], laidByText := true, laidKinds := [.sentinel], laidTests := true, laidLooks := .later }
def SumBitsCardSaid : Prop := Claim7.holds Tryd.pinned (.plain (OpenSpec.ofChange sumBitsSpec)) sumBitsCard

/-- THE TIED CARD OF 'joistlaw04.SumPlaces'. -/
def sumPlacesCard : Claim7 := { stood := { row := sumPlacesRow, standIns := [], harness := (true, "6b08b567caf081dd8aaf8671ea3d291ea2968040fcecf3d37f921bb94594aedd"), looks := true }, kinds := [], alts := [], laidByText := true, laidKinds := [.sentinel], laidTests := true, laidLooks := .later }
def SumPlacesCardSaid : Prop := Claim7.holds Tryd.pinned (.plain (OpenSpec.ofChange sumPlacesSpec)) sumPlacesCard

/-- THE TIED CARD OF 'joistlaw04.SumSizes'. -/
def sumSizesCard : Claim7 := { stood := { row := sumSizesRow, standIns := [], harness := (true, "6b08b567caf081dd8aaf8671ea3d291ea2968040fcecf3d37f921bb94594aedd"), looks := true }, kinds := [], alts := [], laidByText := true, laidKinds := [.sentinel], laidTests := true, laidLooks := .later }
def SumSizesCardSaid : Prop := Claim7.holds Tryd.pinned (.plain (OpenSpec.ofChange sumSizesSpec)) sumSizesCard

/-- THE SECOND FORM's CARD OF 'joistlaw03.CodecCells'. -/
def codecCellsUptoCard : Claim7 := { stood := { row := codecCellsUptoRow, standIns := [], harness := (true, "6b08b567caf081dd8aaf8671ea3d291ea2968040fcecf3d37f921bb94594aedd"), looks := true }, kinds := [], alts := [], laidByText := true, laidKinds := [.data, .sentinel, .pinned], laidTests := true, laidLooks := .later }
def CodecCellsUptoCardSaid : Prop := Claim7.holds Tryd.pinned (.plain (OpenSpec.upto codecCellsSpec)) codecCellsUptoCard

/-- THE SECOND FORM's CARD OF 'joistlaw03.CodecReads'. -/
def codecReadsUptoCard : Claim7 := { stood := { row := codecReadsUptoRow, standIns := [], harness := (true, "6b08b567caf081dd8aaf8671ea3d291ea2968040fcecf3d37f921bb94594aedd"), looks := true }, kinds := [], alts := [], laidByText := true, laidKinds := [.data, .sentinel, .pinned], laidTests := true, laidLooks := .later }
def CodecReadsUptoCardSaid : Prop := Claim7.holds Tryd.pinned (.plain (OpenSpec.upto codecReadsSpec)) codecReadsUptoCard

/-- THE SECOND FORM's CARD OF 'joistlaw03.CodecOrder'. -/
def codecOrderUptoCard : Claim7 := { stood := { row := codecOrderUptoRow, standIns := [], harness := (true, "6b08b567caf081dd8aaf8671ea3d291ea2968040fcecf3d37f921bb94594aedd"), looks := true }, kinds := [], alts := [], laidByText := true, laidKinds := [.data, .sentinel, .pinned], laidTests := true, laidLooks := .later }
def CodecOrderUptoCardSaid : Prop := Claim7.holds Tryd.pinned (.plain (OpenSpec.upto codecOrderSpec)) codecOrderUptoCard

/-- THE SECOND FORM's CARD OF 'joistlaw03.CodecRows'. -/
def codecRowsUptoCard : Claim7 := { stood := { row := codecRowsUptoRow, standIns := [], harness := (true, "6b08b567caf081dd8aaf8671ea3d291ea2968040fcecf3d37f921bb94594aedd"), looks := true }, kinds := [], alts := [], laidByText := true, laidKinds := [.data, .sentinel, .pinned], laidTests := true, laidLooks := .later }
def CodecRowsUptoCardSaid : Prop := Claim7.holds Tryd.pinned (.plain (OpenSpec.upto codecRowsSpec)) codecRowsUptoCard

/-- THE SECOND FORM's CARD OF 'joistlaw03.CodecBack'. -/
def codecBackUptoCard : Claim7 := { stood := { row := codecBackUptoRow, standIns := [], harness := (true, "6b08b567caf081dd8aaf8671ea3d291ea2968040fcecf3d37f921bb94594aedd"), looks := true }, kinds := [], alts := [], laidByText := true, laidKinds := [.data, .sentinel, .pinned], laidTests := true, laidLooks := .later }
def CodecBackUptoCardSaid : Prop := Claim7.holds Tryd.pinned (.plain (OpenSpec.upto codecBackSpec)) codecBackUptoCard

/-- THE SECOND FORM's CARD OF 'joistlaw03.CodecLate'. -/
def codecLateUptoCard : Claim7 := { stood := { row := codecLateUptoRow, standIns := [], harness := (true, "6b08b567caf081dd8aaf8671ea3d291ea2968040fcecf3d37f921bb94594aedd"), looks := true }, kinds := [], alts := [], laidByText := true, laidKinds := [.data, .sentinel, .pinned], laidTests := true, laidLooks := .later }
def CodecLateUptoCardSaid : Prop := Claim7.holds Tryd.pinned (.plain (OpenSpec.upto codecLateSpec)) codecLateUptoCard

/-- THE SECOND FORM's CARD OF 'joistlaw04.SumAnswers'. -/
def sumAnswersUptoCard : Claim7 := { stood := { row := sumAnswersUptoRow, standIns := [], harness := (true, "6b08b567caf081dd8aaf8671ea3d291ea2968040fcecf3d37f921bb94594aedd"), looks := true }, kinds := [], alts := [], laidByText := true, laidKinds := [.sentinel], laidTests := true, laidLooks := .later }
def SumAnswersUptoCardSaid : Prop := Claim7.holds Tryd.pinned (.plain (OpenSpec.upto sumAnswersSpec)) sumAnswersUptoCard

/-- THE SECOND FORM's CARD OF 'joistlaw04.SumBack'. -/
def sumBackUptoCard : Claim7 := { stood := { row := sumBackUptoRow, standIns := [], harness := (true, "6b08b567caf081dd8aaf8671ea3d291ea2968040fcecf3d37f921bb94594aedd"), looks := true }, kinds := [], alts := [], laidByText := true, laidKinds := [.sentinel], laidTests := true, laidLooks := .later }
def SumBackUptoCardSaid : Prop := Claim7.holds Tryd.pinned (.plain (OpenSpec.upto sumBackSpec)) sumBackUptoCard

/-- THE SECOND FORM's CARD OF 'joistlaw04.SumBits'. -/
def sumBitsUptoCard : Claim7 := { stood := { row := sumBitsUptoRow, standIns := [], harness := (true, "6b08b567caf081dd8aaf8671ea3d291ea2968040fcecf3d37f921bb94594aedd"), looks := true }, kinds := [], alts := [], laidByText := true, laidKinds := [.sentinel], laidTests := true, laidLooks := .later }
def SumBitsUptoCardSaid : Prop := Claim7.holds Tryd.pinned (.plain (OpenSpec.upto sumBitsSpec)) sumBitsUptoCard

/-- THE SECOND FORM's CARD OF 'joistlaw04.SumPlaces'. -/
def sumPlacesUptoCard : Claim7 := { stood := { row := sumPlacesUptoRow, standIns := [], harness := (true, "6b08b567caf081dd8aaf8671ea3d291ea2968040fcecf3d37f921bb94594aedd"), looks := true }, kinds := [], alts := [], laidByText := true, laidKinds := [.sentinel], laidTests := true, laidLooks := .later }
def SumPlacesUptoCardSaid : Prop := Claim7.holds Tryd.pinned (.plain (OpenSpec.upto sumPlacesSpec)) sumPlacesUptoCard

/-- THE SECOND FORM's CARD OF 'joistlaw04.SumSizes'. -/
def sumSizesUptoCard : Claim7 := { stood := { row := sumSizesUptoRow, standIns := [], harness := (true, "6b08b567caf081dd8aaf8671ea3d291ea2968040fcecf3d37f921bb94594aedd"), looks := true }, kinds := [], alts := [], laidByText := true, laidKinds := [.sentinel], laidTests := true, laidLooks := .later }
def SumSizesUptoCardSaid : Prop := Claim7.holds Tryd.pinned (.plain (OpenSpec.upto sumSizesSpec)) sumSizesUptoCard
end Rows
end Go.Proofs.YtadehoibjpmhhaaDoor
