/-
  DERIVED. GIVEN WITH THE SEED: THE CARDS: each row of YtgfkobfkncpmoaaDoorRows.lean that lists a variable, with what it lists TIED to the program's text (the seventh form; the later family's looks); each row that meets fmt, with fmt's text TOLD by the authors' own Lean function (tested against real Go, not proved from fmt's source: count such statements apart). THE CARD IS WHAT COUNTS. Prove the row's statement (the work); the ties are given (YtgfkobfkncpmoaaDoorTie.lean); close each card by the builder's one call (the guide's Derived/Test/ToyasCard.lean, 'card_holds'). Laid BY PROGRAM, IN A SANDBOX (cutbox-door.mjs). By AI agents, Wed Nov 11 2026. No macro, syntax, notation, axiom, sorry.
-/
import Derived.Test.YtgfkobfkncpmoaaDoorRows
import GoSem.ClaimSeven
namespace Go.Proofs.YtgfkobfkncpmoaaDoor
namespace Rows

/-- THE TIED CARD OF 'joistlaw03.CodecReads'. -/
def codecReadsCard : Claim7 := { stood := { row := codecReadsRow, standIns := [], harness := (true, "57c478396078b03d716409e651335d27b222765d962e02569b810089706f9a36"), looks := true }, kinds := [], alts := [], laidByText := true, laidKinds := [.data, .sentinel, .pinned], laidTests := true, laidLooks := .later }
def CodecReadsCardSaid : Prop := Claim7.holds Tryd.pinned (.plain (OpenSpec.ofChange codecReadsSpec)) codecReadsCard

/-- THE TIED CARD OF 'joistlaw06.CellGone'. -/
def cellGoneCard : Claim7 := { stood := { row := cellGoneRow, standIns := [], harness := (true, "57c478396078b03d716409e651335d27b222765d962e02569b810089706f9a36"), looks := true }, kinds := [], alts := [], laidByText := true, laidKinds := [.data, .pinned], laidTests := true, laidLooks := .later }
def CellGoneCardSaid : Prop := Claim7.holds Tryd.pinned (.plain (OpenSpec.ofChange cellGoneSpec)) cellGoneCard

/-- THE TIED CARD OF 'joistlaw07.MemFrom'. -/
def memFromCard : Claim7 := { stood := { row := memFromRow, standIns := [], harness := (true, "57c478396078b03d716409e651335d27b222765d962e02569b810089706f9a36"), looks := true }, kinds := [], alts := [], laidByText := true, laidKinds := [.data, .sentinel, .pinned], laidTests := true, laidLooks := .later }
def MemFromCardSaid : Prop := Claim7.holds Tryd.pinned (.plain (OpenSpec.ofChange memFromSpec)) memFromCard

/-- THE TIED CARD OF 'joistlaw08.BlockBack'. -/
def blockBackCard : Claim7 := { stood := { row := blockBackRow, standIns := [], harness := (true, "57c478396078b03d716409e651335d27b222765d962e02569b810089706f9a36"), looks := true }, kinds := [], alts := [], laidByText := true, laidKinds := [.data, .sentinel, .pinned], laidTests := true, laidLooks := .later }
def BlockBackCardSaid : Prop := Claim7.holds Tryd.pinned (.plain (OpenSpec.ofChange blockBackSpec)) blockBackCard

/-- THE TIED CARD OF 'joistlaw08.BlockCuts'. -/
def blockCutsCard : Claim7 := { stood := { row := blockCutsRow, standIns := [], harness := (true, "57c478396078b03d716409e651335d27b222765d962e02569b810089706f9a36"), looks := true }, kinds := [], alts := [], laidByText := true, laidKinds := [.data, .sentinel, .pinned], laidTests := true, laidLooks := .later }
def BlockCutsCardSaid : Prop := Claim7.holds Tryd.pinned (.plain (OpenSpec.ofChange blockCutsSpec)) blockCutsCard

/-- THE TIED CARD OF 'joistlaw08.BlockFinds'. -/
def blockFindsCard : Claim7 := { stood := { row := blockFindsRow, standIns := [], harness := (true, "57c478396078b03d716409e651335d27b222765d962e02569b810089706f9a36"), looks := true }, kinds := [], alts := [], laidByText := true, laidKinds := [.data, .sentinel, .pinned], laidTests := true, laidLooks := .later }
def BlockFindsCardSaid : Prop := Claim7.holds Tryd.pinned (.plain (OpenSpec.ofChange blockFindsSpec)) blockFindsCard

/-- THE TIED CARD OF 'joistlaw10.MergeCalls'. -/
def mergeCallsCard : Claim7 := { stood := { row := mergeCallsRow, standIns := [], harness := (true, "57c478396078b03d716409e651335d27b222765d962e02569b810089706f9a36"), looks := true }, kinds := [], alts := [], laidByText := true, laidKinds := [.data, .pinned], laidTests := true, laidLooks := .later }
def MergeCallsCardSaid : Prop := Claim7.holds Tryd.pinned (.plain (OpenSpec.ofChange mergeCallsSpec)) mergeCallsCard

/-- THE TIED CARD OF 'joistlaw13.FilterLets'. -/
def filterLetsCard : Claim7 := { stood := { row := filterLetsRow, standIns := [], harness := (true, "57c478396078b03d716409e651335d27b222765d962e02569b810089706f9a36"), looks := true }, kinds := [], alts := [], laidByText := true, laidKinds := [.data, .pinned], laidTests := true, laidLooks := .later }
def FilterLetsCardSaid : Prop := Claim7.holds Tryd.pinned (.plain (OpenSpec.ofChange filterLetsSpec)) filterLetsCard

/-- THE TIED CARD OF 'joistlaw13.FilterTakes'. -/
def filterTakesCard : Claim7 := { stood := { row := filterTakesRow, standIns := [], harness := (true, "57c478396078b03d716409e651335d27b222765d962e02569b810089706f9a36"), looks := true }, kinds := [], alts := [], laidByText := true, laidKinds := [.data, .pinned], laidTests := true, laidLooks := .later }
def FilterTakesCardSaid : Prop := Claim7.holds Tryd.pinned (.plain (OpenSpec.ofChange filterTakesSpec)) filterTakesCard

/-- THE TIED CARD OF 'joistlaw13.FilterParts'. -/
def filterPartsCard : Claim7 := { stood := { row := filterPartsRow, standIns := [], harness := (true, "57c478396078b03d716409e651335d27b222765d962e02569b810089706f9a36"), looks := true }, kinds := [], alts := [], laidByText := true, laidKinds := [.data, .pinned], laidTests := true, laidLooks := .later }
def FilterPartsCardSaid : Prop := Claim7.holds Tryd.pinned (.plain (OpenSpec.ofChange filterPartsSpec)) filterPartsCard

/-- THE TIED CARD OF 'joistlaw13.FilterAgain'. -/
def filterAgainCard : Claim7 := { stood := { row := filterAgainRow, standIns := [], harness := (true, "57c478396078b03d716409e651335d27b222765d962e02569b810089706f9a36"), looks := true }, kinds := [], alts := [], laidByText := true, laidKinds := [.data, .pinned], laidTests := true, laidLooks := .later }
def FilterAgainCardSaid : Prop := Claim7.holds Tryd.pinned (.plain (OpenSpec.ofChange filterAgainSpec)) filterAgainCard

/-- THE TIED CARD OF 'joistlaw13.FilterRows'. -/
def filterRowsCard : Claim7 := { stood := { row := filterRowsRow, standIns := [], harness := (true, "57c478396078b03d716409e651335d27b222765d962e02569b810089706f9a36"), looks := true }, kinds := [], alts := [], laidByText := true, laidKinds := [.data, .pinned], laidTests := true, laidLooks := .later }
def FilterRowsCardSaid : Prop := Claim7.holds Tryd.pinned (.plain (OpenSpec.ofChange filterRowsSpec)) filterRowsCard

/-- THE SECOND FORM's CARD OF 'joistlaw03.CodecReads'. -/
def codecReadsUptoCard : Claim7 := { stood := { row := codecReadsUptoRow, standIns := [], harness := (true, "57c478396078b03d716409e651335d27b222765d962e02569b810089706f9a36"), looks := true }, kinds := [], alts := [], laidByText := true, laidKinds := [.data, .sentinel, .pinned], laidTests := true, laidLooks := .later }
def CodecReadsUptoCardSaid : Prop := Claim7.holds Tryd.pinned (.plain (OpenSpec.upto codecReadsSpec)) codecReadsUptoCard

/-- THE SECOND FORM's CARD OF 'joistlaw06.CellGone'. -/
def cellGoneUptoCard : Claim7 := { stood := { row := cellGoneUptoRow, standIns := [], harness := (true, "57c478396078b03d716409e651335d27b222765d962e02569b810089706f9a36"), looks := true }, kinds := [], alts := [], laidByText := true, laidKinds := [.data, .pinned], laidTests := true, laidLooks := .later }
def CellGoneUptoCardSaid : Prop := Claim7.holds Tryd.pinned (.plain (OpenSpec.upto cellGoneSpec)) cellGoneUptoCard

/-- THE SECOND FORM's CARD OF 'joistlaw07.MemFrom'. -/
def memFromUptoCard : Claim7 := { stood := { row := memFromUptoRow, standIns := [], harness := (true, "57c478396078b03d716409e651335d27b222765d962e02569b810089706f9a36"), looks := true }, kinds := [], alts := [], laidByText := true, laidKinds := [.data, .sentinel, .pinned], laidTests := true, laidLooks := .later }
def MemFromUptoCardSaid : Prop := Claim7.holds Tryd.pinned (.plain (OpenSpec.upto memFromSpec)) memFromUptoCard

/-- THE SECOND FORM's CARD OF 'joistlaw08.BlockBack'. -/
def blockBackUptoCard : Claim7 := { stood := { row := blockBackUptoRow, standIns := [], harness := (true, "57c478396078b03d716409e651335d27b222765d962e02569b810089706f9a36"), looks := true }, kinds := [], alts := [], laidByText := true, laidKinds := [.data, .sentinel, .pinned], laidTests := true, laidLooks := .later }
def BlockBackUptoCardSaid : Prop := Claim7.holds Tryd.pinned (.plain (OpenSpec.upto blockBackSpec)) blockBackUptoCard

/-- THE SECOND FORM's CARD OF 'joistlaw08.BlockCuts'. -/
def blockCutsUptoCard : Claim7 := { stood := { row := blockCutsUptoRow, standIns := [], harness := (true, "57c478396078b03d716409e651335d27b222765d962e02569b810089706f9a36"), looks := true }, kinds := [], alts := [], laidByText := true, laidKinds := [.data, .sentinel, .pinned], laidTests := true, laidLooks := .later }
def BlockCutsUptoCardSaid : Prop := Claim7.holds Tryd.pinned (.plain (OpenSpec.upto blockCutsSpec)) blockCutsUptoCard

/-- THE SECOND FORM's CARD OF 'joistlaw08.BlockFinds'. -/
def blockFindsUptoCard : Claim7 := { stood := { row := blockFindsUptoRow, standIns := [], harness := (true, "57c478396078b03d716409e651335d27b222765d962e02569b810089706f9a36"), looks := true }, kinds := [], alts := [], laidByText := true, laidKinds := [.data, .sentinel, .pinned], laidTests := true, laidLooks := .later }
def BlockFindsUptoCardSaid : Prop := Claim7.holds Tryd.pinned (.plain (OpenSpec.upto blockFindsSpec)) blockFindsUptoCard

/-- THE SECOND FORM's CARD OF 'joistlaw10.MergeCalls'. -/
def mergeCallsUptoCard : Claim7 := { stood := { row := mergeCallsUptoRow, standIns := [], harness := (true, "57c478396078b03d716409e651335d27b222765d962e02569b810089706f9a36"), looks := true }, kinds := [], alts := [], laidByText := true, laidKinds := [.data, .pinned], laidTests := true, laidLooks := .later }
def MergeCallsUptoCardSaid : Prop := Claim7.holds Tryd.pinned (.plain (OpenSpec.upto mergeCallsSpec)) mergeCallsUptoCard

/-- THE SECOND FORM's CARD OF 'joistlaw13.FilterLets'. -/
def filterLetsUptoCard : Claim7 := { stood := { row := filterLetsUptoRow, standIns := [], harness := (true, "57c478396078b03d716409e651335d27b222765d962e02569b810089706f9a36"), looks := true }, kinds := [], alts := [], laidByText := true, laidKinds := [.data, .pinned], laidTests := true, laidLooks := .later }
def FilterLetsUptoCardSaid : Prop := Claim7.holds Tryd.pinned (.plain (OpenSpec.upto filterLetsSpec)) filterLetsUptoCard

/-- THE SECOND FORM's CARD OF 'joistlaw13.FilterTakes'. -/
def filterTakesUptoCard : Claim7 := { stood := { row := filterTakesUptoRow, standIns := [], harness := (true, "57c478396078b03d716409e651335d27b222765d962e02569b810089706f9a36"), looks := true }, kinds := [], alts := [], laidByText := true, laidKinds := [.data, .pinned], laidTests := true, laidLooks := .later }
def FilterTakesUptoCardSaid : Prop := Claim7.holds Tryd.pinned (.plain (OpenSpec.upto filterTakesSpec)) filterTakesUptoCard

/-- THE SECOND FORM's CARD OF 'joistlaw13.FilterParts'. -/
def filterPartsUptoCard : Claim7 := { stood := { row := filterPartsUptoRow, standIns := [], harness := (true, "57c478396078b03d716409e651335d27b222765d962e02569b810089706f9a36"), looks := true }, kinds := [], alts := [], laidByText := true, laidKinds := [.data, .pinned], laidTests := true, laidLooks := .later }
def FilterPartsUptoCardSaid : Prop := Claim7.holds Tryd.pinned (.plain (OpenSpec.upto filterPartsSpec)) filterPartsUptoCard

/-- THE SECOND FORM's CARD OF 'joistlaw13.FilterAgain'. -/
def filterAgainUptoCard : Claim7 := { stood := { row := filterAgainUptoRow, standIns := [], harness := (true, "57c478396078b03d716409e651335d27b222765d962e02569b810089706f9a36"), looks := true }, kinds := [], alts := [], laidByText := true, laidKinds := [.data, .pinned], laidTests := true, laidLooks := .later }
def FilterAgainUptoCardSaid : Prop := Claim7.holds Tryd.pinned (.plain (OpenSpec.upto filterAgainSpec)) filterAgainUptoCard

/-- THE SECOND FORM's CARD OF 'joistlaw13.FilterRows'. -/
def filterRowsUptoCard : Claim7 := { stood := { row := filterRowsUptoRow, standIns := [], harness := (true, "57c478396078b03d716409e651335d27b222765d962e02569b810089706f9a36"), looks := true }, kinds := [], alts := [], laidByText := true, laidKinds := [.data, .pinned], laidTests := true, laidLooks := .later }
def FilterRowsUptoCardSaid : Prop := Claim7.holds Tryd.pinned (.plain (OpenSpec.upto filterRowsSpec)) filterRowsUptoCard
end Rows
end Go.Proofs.YtgfkobfkncpmoaaDoor
