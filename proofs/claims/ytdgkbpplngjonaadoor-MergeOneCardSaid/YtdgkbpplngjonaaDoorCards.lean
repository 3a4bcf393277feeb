/-
  DERIVED. GIVEN WITH THE SEED: THE CARDS: each row of YtdgkbpplngjonaaDoorRows.lean that lists a variable, with what it lists TIED to the program's text (the seventh form; the later family's looks); each row that meets fmt, with fmt's text TOLD by the authors' own Lean function (tested against real Go, not proved from fmt's source: count such statements apart). THE CARD IS WHAT COUNTS. Prove the row's statement (the work); the ties are given (YtdgkbpplngjonaaDoorTie.lean); close each card by the builder's one call (the guide's Derived/Test/ToyasCard.lean, 'card_holds'). Laid BY PROGRAM, IN A SANDBOX (cutbox-door.mjs). By AI agents, Wed Nov 11 2026. No macro, syntax, notation, axiom, sorry.
-/
import Derived.Test.YtdgkbpplngjonaaDoorRows
import GoSem.ClaimSeven
namespace Go.Proofs.YtdgkbpplngjonaaDoor
namespace Rows

/-- THE TIED CARD OF 'joistlaw03.CodecReads'. -/
def codecReadsCard : Claim7 := { stood := { row := codecReadsRow, standIns := [], harness := (true, "d406c4e627e487175e002d4ec30fd18ddc5797a9fbdbcfdca32620495f3f5294"), looks := true }, kinds := [], alts := [], laidByText := true, laidKinds := [.data, .sentinel, .pinned], laidTests := true, laidLooks := .later }
def CodecReadsCardSaid : Prop := Claim7.holds Tryd.pinned (.plain (OpenSpec.ofChange codecReadsSpec)) codecReadsCard

/-- THE TIED CARD OF 'joistlaw06.CellGone'. -/
def cellGoneCard : Claim7 := { stood := { row := cellGoneRow, standIns := [], harness := (true, "d406c4e627e487175e002d4ec30fd18ddc5797a9fbdbcfdca32620495f3f5294"), looks := true }, kinds := [], alts := [], laidByText := true, laidKinds := [.data, .pinned], laidTests := true, laidLooks := .later }
def CellGoneCardSaid : Prop := Claim7.holds Tryd.pinned (.plain (OpenSpec.ofChange cellGoneSpec)) cellGoneCard

/-- THE TIED CARD OF 'joistlaw07.MemFrom'. -/
def memFromCard : Claim7 := { stood := { row := memFromRow, standIns := [], harness := (true, "d406c4e627e487175e002d4ec30fd18ddc5797a9fbdbcfdca32620495f3f5294"), looks := true }, kinds := [], alts := [], laidByText := true, laidKinds := [.data, .sentinel, .pinned], laidTests := true, laidLooks := .later }
def MemFromCardSaid : Prop := Claim7.holds Tryd.pinned (.plain (OpenSpec.ofChange memFromSpec)) memFromCard

/-- THE TIED CARD OF 'joistlaw08.BlockBack'. -/
def blockBackCard : Claim7 := { stood := { row := blockBackRow, standIns := [], harness := (true, "d406c4e627e487175e002d4ec30fd18ddc5797a9fbdbcfdca32620495f3f5294"), looks := true }, kinds := [], alts := [], laidByText := true, laidKinds := [.data, .sentinel, .pinned], laidTests := true, laidLooks := .later }
def BlockBackCardSaid : Prop := Claim7.holds Tryd.pinned (.plain (OpenSpec.ofChange blockBackSpec)) blockBackCard

/-- THE TIED CARD OF 'joistlaw08.BlockCuts'. -/
def blockCutsCard : Claim7 := { stood := { row := blockCutsRow, standIns := [], harness := (true, "d406c4e627e487175e002d4ec30fd18ddc5797a9fbdbcfdca32620495f3f5294"), looks := true }, kinds := [], alts := [], laidByText := true, laidKinds := [.data, .sentinel, .pinned], laidTests := true, laidLooks := .later }
def BlockCutsCardSaid : Prop := Claim7.holds Tryd.pinned (.plain (OpenSpec.ofChange blockCutsSpec)) blockCutsCard

/-- THE TIED CARD OF 'joistlaw08.BlockFinds'. -/
def blockFindsCard : Claim7 := { stood := { row := blockFindsRow, standIns := [], harness := (true, "d406c4e627e487175e002d4ec30fd18ddc5797a9fbdbcfdca32620495f3f5294"), looks := true }, kinds := [], alts := [], laidByText := true, laidKinds := [.data, .sentinel, .pinned], laidTests := true, laidLooks := .later }
def BlockFindsCardSaid : Prop := Claim7.holds Tryd.pinned (.plain (OpenSpec.ofChange blockFindsSpec)) blockFindsCard

/-- THE TIED CARD OF 'joistlaw10.MergeCalls'. -/
def mergeCallsCard : Claim7 := { stood := { row := mergeCallsRow, standIns := [], harness := (true, "d406c4e627e487175e002d4ec30fd18ddc5797a9fbdbcfdca32620495f3f5294"), looks := true }, kinds := [], alts := [], laidByText := true, laidKinds := [.data, .pinned], laidTests := true, laidLooks := .later }
def MergeCallsCardSaid : Prop := Claim7.holds Tryd.pinned (.plain (OpenSpec.ofChange mergeCallsSpec)) mergeCallsCard

/-- THE TIED CARD OF 'joistlaw10.MergeOne'. -/
def mergeOneCard : Claim7 := { stood := { row := mergeOneRow, standIns := [], harness := (true, "d406c4e627e487175e002d4ec30fd18ddc5797a9fbdbcfdca32620495f3f5294"), looks := true }, kinds := [], alts := [], laidByText := true, laidKinds := [.data, .pinned], laidTests := true, laidLooks := .later }
def MergeOneCardSaid : Prop := Claim7.holds Tryd.pinned (.plain (OpenSpec.ofChange mergeOneSpec)) mergeOneCard

/-- THE TIED CARD OF 'joistlaw10.MergeParts'. -/
def mergePartsCard : Claim7 := { stood := { row := mergePartsRow, standIns := [], harness := (true, "d406c4e627e487175e002d4ec30fd18ddc5797a9fbdbcfdca32620495f3f5294"), looks := true }, kinds := [], alts := [], laidByText := true, laidKinds := [.data, .pinned], laidTests := true, laidLooks := .later }
def MergePartsCardSaid : Prop := Claim7.holds Tryd.pinned (.plain (OpenSpec.ofChange mergePartsSpec)) mergePartsCard

/-- THE TIED CARD OF 'joistlaw10.MergeSkips'. -/
def mergeSkipsCard : Claim7 := { stood := { row := mergeSkipsRow, standIns := [], harness := (true, "d406c4e627e487175e002d4ec30fd18ddc5797a9fbdbcfdca32620495f3f5294"), looks := true }, kinds := [], alts := [], laidByText := true, laidKinds := [.data, .pinned], laidTests := true, laidLooks := .later }
def MergeSkipsCardSaid : Prop := Claim7.holds Tryd.pinned (.plain (OpenSpec.ofChange mergeSkipsSpec)) mergeSkipsCard

/-- THE TIED CARD OF 'joistlaw10.MergeHalves'. -/
def mergeHalvesCard : Claim7 := { stood := { row := mergeHalvesRow, standIns := [], harness := (true, "d406c4e627e487175e002d4ec30fd18ddc5797a9fbdbcfdca32620495f3f5294"), looks := true }, kinds := [], alts := [], laidByText := true, laidKinds := [.data, .pinned], laidTests := true, laidLooks := .later }
def MergeHalvesCardSaid : Prop := Claim7.holds Tryd.pinned (.plain (OpenSpec.ofChange mergeHalvesSpec)) mergeHalvesCard

/-- THE SECOND FORM's CARD OF 'joistlaw03.CodecReads'. -/
def codecReadsUptoCard : Claim7 := { stood := { row := codecReadsUptoRow, standIns := [], harness := (true, "d406c4e627e487175e002d4ec30fd18ddc5797a9fbdbcfdca32620495f3f5294"), looks := true }, kinds := [], alts := [], laidByText := true, laidKinds := [.data, .sentinel, .pinned], laidTests := true, laidLooks := .later }
def CodecReadsUptoCardSaid : Prop := Claim7.holds Tryd.pinned (.plain (OpenSpec.upto codecReadsSpec)) codecReadsUptoCard

/-- THE SECOND FORM's CARD OF 'joistlaw06.CellGone'. -/
def cellGoneUptoCard : Claim7 := { stood := { row := cellGoneUptoRow, standIns := [], harness := (true, "d406c4e627e487175e002d4ec30fd18ddc5797a9fbdbcfdca32620495f3f5294"), looks := true }, kinds := [], alts := [], laidByText := true, laidKinds := [.data, .pinned], laidTests := true, laidLooks := .later }
def CellGoneUptoCardSaid : Prop := Claim7.holds Tryd.pinned (.plain (OpenSpec.upto cellGoneSpec)) cellGoneUptoCard

/-- THE SECOND FORM's CARD OF 'joistlaw07.MemFrom'. -/
def memFromUptoCard : Claim7 := { stood := { row := memFromUptoRow, standIns := [], harness := (true, "d406c4e627e487175e002d4ec30fd18ddc5797a9fbdbcfdca32620495f3f5294"), looks := true }, kinds := [], alts := [], laidByText := true, laidKinds := [.data, .sentinel, .pinned], laidTests := true, laidLooks := .later }
def MemFromUptoCardSaid : Prop := Claim7.holds Tryd.pinned (.plain (OpenSpec.upto memFromSpec)) memFromUptoCard

/-- THE SECOND FORM's CARD OF 'joistlaw08.BlockBack'. -/
def blockBackUptoCard : Claim7 := { stood := { row := blockBackUptoRow, standIns := [], harness := (true, "d406c4e627e487175e002d4ec30fd18ddc5797a9fbdbcfdca32620495f3f5294"), looks := true }, kinds := [], alts := [], laidByText := true, laidKinds := [.data, .sentinel, .pinned], laidTests := true, laidLooks := .later }
def BlockBackUptoCardSaid : Prop := Claim7.holds Tryd.pinned (.plain (OpenSpec.upto blockBackSpec)) blockBackUptoCard

/-- THE SECOND FORM's CARD OF 'joistlaw08.BlockCuts'. -/
def blockCutsUptoCard : Claim7 := { stood := { row := blockCutsUptoRow, standIns := [], harness := (true, "d406c4e627e487175e002d4ec30fd18ddc5797a9fbdbcfdca32620495f3f5294"), looks := true }, kinds := [], alts := [], laidByText := true, laidKinds := [.data, .sentinel, .pinned], laidTests := true, laidLooks := .later }
def BlockCutsUptoCardSaid : Prop := Claim7.holds Tryd.pinned (.plain (OpenSpec.upto blockCutsSpec)) blockCutsUptoCard

/-- THE SECOND FORM's CARD OF 'joistlaw08.BlockFinds'. -/
def blockFindsUptoCard : Claim7 := { stood := { row := blockFindsUptoRow, standIns := [], harness := (true, "d406c4e627e487175e002d4ec30fd18ddc5797a9fbdbcfdca32620495f3f5294"), looks := true }, kinds := [], alts := [], laidByText := true, laidKinds := [.data, .sentinel, .pinned], laidTests := true, laidLooks := .later }
def BlockFindsUptoCardSaid : Prop := Claim7.holds Tryd.pinned (.plain (OpenSpec.upto blockFindsSpec)) blockFindsUptoCard

/-- THE SECOND FORM's CARD OF 'joistlaw10.MergeCalls'. -/
def mergeCallsUptoCard : Claim7 := { stood := { row := mergeCallsUptoRow, standIns := [], harness := (true, "d406c4e627e487175e002d4ec30fd18ddc5797a9fbdbcfdca32620495f3f5294"), looks := true }, kinds := [], alts := [], laidByText := true, laidKinds := [.data, .pinned], laidTests := true, laidLooks := .later }
def MergeCallsUptoCardSaid : Prop := Claim7.holds Tryd.pinned (.plain (OpenSpec.upto mergeCallsSpec)) mergeCallsUptoCard

/-- THE SECOND FORM's CARD OF 'joistlaw10.MergeOne'. -/
def mergeOneUptoCard : Claim7 := { stood := { row := mergeOneUptoRow, standIns := [], harness := (true, "d406c4e627e487175e002d4ec30fd18ddc5797a9fbdbcfdca32620495f3f5294"), looks := true }, kinds := [], alts := [], laidByText := true, laidKinds := [.data, .pinned], laidTests := true, laidLooks := .later }
def MergeOneUptoCardSaid : Prop := Claim7.holds Tryd.pinned (.plain (OpenSpec.upto mergeOneSpec)) mergeOneUptoCard

/-- THE SECOND FORM's CARD OF 'joistlaw10.MergeParts'. -/
def mergePartsUptoCard : Claim7 := { stood := { row := mergePartsUptoRow, standIns := [], harness := (true, "d406c4e627e487175e002d4ec30fd18ddc5797a9fbdbcfdca32620495f3f5294"), looks := true }, kinds := [], alts := [], laidByText := true, laidKinds := [.data, .pinned], laidTests := true, laidLooks := .later }
def MergePartsUptoCardSaid : Prop := Claim7.holds Tryd.pinned (.plain (OpenSpec.upto mergePartsSpec)) mergePartsUptoCard

/-- THE SECOND FORM's CARD OF 'joistlaw10.MergeSkips'. -/
def mergeSkipsUptoCard : Claim7 := { stood := { row := mergeSkipsUptoRow, standIns := [], harness := (true, "d406c4e627e487175e002d4ec30fd18ddc5797a9fbdbcfdca32620495f3f5294"), looks := true }, kinds := [], alts := [], laidByText := true, laidKinds := [.data, .pinned], laidTests := true, laidLooks := .later }
def MergeSkipsUptoCardSaid : Prop := Claim7.holds Tryd.pinned (.plain (OpenSpec.upto mergeSkipsSpec)) mergeSkipsUptoCard

/-- THE SECOND FORM's CARD OF 'joistlaw10.MergeHalves'. -/
def mergeHalvesUptoCard : Claim7 := { stood := { row := mergeHalvesUptoRow, standIns := [], harness := (true, "d406c4e627e487175e002d4ec30fd18ddc5797a9fbdbcfdca32620495f3f5294"), looks := true }, kinds := [], alts := [], laidByText := true, laidKinds := [.data, .pinned], laidTests := true, laidLooks := .later }
def MergeHalvesUptoCardSaid : Prop := Claim7.holds Tryd.pinned (.plain (OpenSpec.upto mergeHalvesSpec)) mergeHalvesUptoCard
end Rows
end Go.Proofs.YtdgkbpplngjonaaDoor
