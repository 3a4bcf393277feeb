/-
  DERIVED. GIVEN WITH THE SEED: THE CARDS: each row of YtdjaofbjmnmlbaaDoorRows.lean that lists a variable, with what it lists TIED to the program's text (the seventh form; the later family's looks); each row that meets fmt, with fmt's text TOLD by the authors' own Lean function (tested against real Go, not proved from fmt's source: count such statements apart). THE CARD IS WHAT COUNTS. Prove the row's statement (the work); the ties are given (YtdjaofbjmnmlbaaDoorTie.lean); close each card by the builder's one call (the guide's Derived/Test/ToyasCard.lean, 'card_holds'). Laid BY PROGRAM, IN A SANDBOX (cutbox-door.mjs). By AI agents, Wed Nov 11 2026. No macro, syntax, notation, axiom, sorry.
-/
import Derived.Test.YtdjaofbjmnmlbaaDoorRows
import GoSem.ClaimSeven
namespace Go.Proofs.YtdjaofbjmnmlbaaDoor
namespace Rows

/-- THE TIED CARD OF 'joistlaw03.CodecReads'. -/
def codecReadsCard : Claim7 := { stood := { row := codecReadsRow, standIns := [], harness := (true, "aaa87a74442972fbc2d739f2b0cb0fbbf93567dae838c9c99f7c4f2586614283"), looks := true }, kinds := [], alts := [], laidByText := true, laidKinds := [.data, .sentinel, .pinned], laidTests := true, laidLooks := .later }
def CodecReadsCardSaid : Prop := Claim7.holds Tryd.pinned (.plain (OpenSpec.ofChange codecReadsSpec)) codecReadsCard

/-- THE TIED CARD OF 'joistlaw06.CellOrder'. -/
def cellOrderCard : Claim7 := { stood := { row := cellOrderRow, standIns := [], harness := (true, "aaa87a74442972fbc2d739f2b0cb0fbbf93567dae838c9c99f7c4f2586614283"), looks := true }, kinds := [], alts := [], laidByText := true, laidKinds := [.data, .pinned], laidTests := true, laidLooks := .later }
def CellOrderCardSaid : Prop := Claim7.holds Tryd.pinned (.plain (OpenSpec.ofChange cellOrderSpec)) cellOrderCard

/-- THE TIED CARD OF 'joistlaw06.CellGone'. -/
def cellGoneCard : Claim7 := { stood := { row := cellGoneRow, standIns := [], harness := (true, "aaa87a74442972fbc2d739f2b0cb0fbbf93567dae838c9c99f7c4f2586614283"), looks := true }, kinds := [], alts := [], laidByText := true, laidKinds := [.data, .pinned], laidTests := true, laidLooks := .later }
def CellGoneCardSaid : Prop := Claim7.holds Tryd.pinned (.plain (OpenSpec.ofChange cellGoneSpec)) cellGoneCard

/-- THE TIED CARD OF 'joistlaw06.CellFew'. -/
def cellFewCard : Claim7 := { stood := { row := cellFewRow, standIns := [], harness := (true, "aaa87a74442972fbc2d739f2b0cb0fbbf93567dae838c9c99f7c4f2586614283"), looks := true }, kinds := [], alts := [], laidByText := true, laidKinds := [.data, .pinned], laidTests := true, laidLooks := .later }
def CellFewCardSaid : Prop := Claim7.holds Tryd.pinned (.plain (OpenSpec.ofChange cellFewSpec)) cellFewCard

/-- THE TIED CARD OF 'joistlaw07.MemPuts'. -/
def memPutsCard : Claim7 := { stood := { row := memPutsRow, standIns := [], harness := (true, "aaa87a74442972fbc2d739f2b0cb0fbbf93567dae838c9c99f7c4f2586614283"), looks := true }, kinds := [], alts := [], laidByText := true, laidKinds := [.data, .sentinel, .pinned], laidTests := true, laidLooks := .later }
def MemPutsCardSaid : Prop := Claim7.holds Tryd.pinned (.plain (OpenSpec.ofChange memPutsSpec)) memPutsCard

/-- THE TIED CARD OF 'joistlaw07.MemFrom'. -/
def memFromCard : Claim7 := { stood := { row := memFromRow, standIns := [], harness := (true, "aaa87a74442972fbc2d739f2b0cb0fbbf93567dae838c9c99f7c4f2586614283"), looks := true }, kinds := [], alts := [], laidByText := true, laidKinds := [.data, .sentinel, .pinned], laidTests := true, laidLooks := .later }
def MemFromCardSaid : Prop := Claim7.holds Tryd.pinned (.plain (OpenSpec.ofChange memFromSpec)) memFromCard

/-- THE TIED CARD OF 'joistlaw07.MemOrder'. -/
def memOrderCard : Claim7 := { stood := { row := memOrderRow, standIns := [], harness := (true, "aaa87a74442972fbc2d739f2b0cb0fbbf93567dae838c9c99f7c4f2586614283"), looks := true }, kinds := [], alts := [], laidByText := true, laidKinds := [.data, .sentinel, .pinned], laidTests := true, laidLooks := .later }
def MemOrderCardSaid : Prop := Claim7.holds Tryd.pinned (.plain (OpenSpec.ofChange memOrderSpec)) memOrderCard

/-- THE TIED CARD OF 'joistlaw08.BlockBack'. -/
def blockBackCard : Claim7 := { stood := { row := blockBackRow, standIns := [], harness := (true, "aaa87a74442972fbc2d739f2b0cb0fbbf93567dae838c9c99f7c4f2586614283"), looks := true }, kinds := [], alts := [], laidByText := true, laidKinds := [.data, .sentinel, .pinned], laidTests := true, laidLooks := .later }
def BlockBackCardSaid : Prop := Claim7.holds Tryd.pinned (.plain (OpenSpec.ofChange blockBackSpec)) blockBackCard

/-- THE TIED CARD OF 'joistlaw08.BlockCuts'. -/
def blockCutsCard : Claim7 := { stood := { row := blockCutsRow, standIns := [], harness := (true, "aaa87a74442972fbc2d739f2b0cb0fbbf93567dae838c9c99f7c4f2586614283"), looks := true }, kinds := [], alts := [], laidByText := true, laidKinds := [.data, .sentinel, .pinned], laidTests := true, laidLooks := .later }
def BlockCutsCardSaid : Prop := Claim7.holds Tryd.pinned (.plain (OpenSpec.ofChange blockCutsSpec)) blockCutsCard

/-- THE TIED CARD OF 'joistlaw08.BlockFinds'. -/
def blockFindsCard : Claim7 := { stood := { row := blockFindsRow, standIns := [], harness := (true, "aaa87a74442972fbc2d739f2b0cb0fbbf93567dae838c9c99f7c4f2586614283"), looks := true }, kinds := [], alts := [], laidByText := true, laidKinds := [.data, .sentinel, .pinned], laidTests := true, laidLooks := .later }
def BlockFindsCardSaid : Prop := Claim7.holds Tryd.pinned (.plain (OpenSpec.ofChange blockFindsSpec)) blockFindsCard

/-- THE SECOND FORM's CARD OF 'joistlaw03.CodecReads'. -/
def codecReadsUptoCard : Claim7 := { stood := { row := codecReadsUptoRow, standIns := [], harness := (true, "aaa87a74442972fbc2d739f2b0cb0fbbf93567dae838c9c99f7c4f2586614283"), looks := true }, kinds := [], alts := [], laidByText := true, laidKinds := [.data, .sentinel, .pinned], laidTests := true, laidLooks := .later }
def CodecReadsUptoCardSaid : Prop := Claim7.holds Tryd.pinned (.plain (OpenSpec.upto codecReadsSpec)) codecReadsUptoCard

/-- THE SECOND FORM's CARD OF 'joistlaw06.CellOrder'. -/
def cellOrderUptoCard : Claim7 := { stood := { row := cellOrderUptoRow, standIns := [], harness := (true, "aaa87a74442972fbc2d739f2b0cb0fbbf93567dae838c9c99f7c4f2586614283"), looks := true }, kinds := [], alts := [], laidByText := true, laidKinds := [.data, .pinned], laidTests := true, laidLooks := .later }
def CellOrderUptoCardSaid : Prop := Claim7.holds Tryd.pinned (.plain (OpenSpec.upto cellOrderSpec)) cellOrderUptoCard

/-- THE SECOND FORM's CARD OF 'joistlaw06.CellGone'. -/
def cellGoneUptoCard : Claim7 := { stood := { row := cellGoneUptoRow, standIns := [], harness := (true, "aaa87a74442972fbc2d739f2b0cb0fbbf93567dae838c9c99f7c4f2586614283"), looks := true }, kinds := [], alts := [], laidByText := true, laidKinds := [.data, .pinned], laidTests := true, laidLooks := .later }
def CellGoneUptoCardSaid : Prop := Claim7.holds Tryd.pinned (.plain (OpenSpec.upto cellGoneSpec)) cellGoneUptoCard

/-- THE SECOND FORM's CARD OF 'joistlaw06.CellFew'. -/
def cellFewUptoCard : Claim7 := { stood := { row := cellFewUptoRow, standIns := [], harness := (true, "aaa87a74442972fbc2d739f2b0cb0fbbf93567dae838c9c99f7c4f2586614283"), looks := true }, kinds := [], alts := [], laidByText := true, laidKinds := [.data, .pinned], laidTests := true, laidLooks := .later }
def CellFewUptoCardSaid : Prop := Claim7.holds Tryd.pinned (.plain (OpenSpec.upto cellFewSpec)) cellFewUptoCard

/-- THE SECOND FORM's CARD OF 'joistlaw07.MemPuts'. -/
def memPutsUptoCard : Claim7 := { stood := { row := memPutsUptoRow, standIns := [], harness := (true, "aaa87a74442972fbc2d739f2b0cb0fbbf93567dae838c9c99f7c4f2586614283"), looks := true }, kinds := [], alts := [], laidByText := true, laidKinds := [.data, .sentinel, .pinned], laidTests := true, laidLooks := .later }
def MemPutsUptoCardSaid : Prop := Claim7.holds Tryd.pinned (.plain (OpenSpec.upto memPutsSpec)) memPutsUptoCard

/-- THE SECOND FORM's CARD OF 'joistlaw07.MemFrom'. -/
def memFromUptoCard : Claim7 := { stood := { row := memFromUptoRow, standIns := [], harness := (true, "aaa87a74442972fbc2d739f2b0cb0fbbf93567dae838c9c99f7c4f2586614283"), looks := true }, kinds := [], alts := [], laidByText := true, laidKinds := [.data, .sentinel, .pinned], laidTests := true, laidLooks := .later }
def MemFromUptoCardSaid : Prop := Claim7.holds Tryd.pinned (.plain (OpenSpec.upto memFromSpec)) memFromUptoCard

/-- THE SECOND FORM's CARD OF 'joistlaw07.MemOrder'. -/
def memOrderUptoCard : Claim7 := { stood := { row := memOrderUptoRow, standIns := [], harness := (true, "aaa87a74442972fbc2d739f2b0cb0fbbf93567dae838c9c99f7c4f2586614283"), looks := true }, kinds := [], alts := [], laidByText := true, laidKinds := [.data, .sentinel, .pinned], laidTests := true, laidLooks := .later }
def MemOrderUptoCardSaid : Prop := Claim7.holds Tryd.pinned (.plain (OpenSpec.upto memOrderSpec)) memOrderUptoCard

/-- THE SECOND FORM's CARD OF 'joistlaw08.BlockBack'. -/
def blockBackUptoCard : Claim7 := { stood := { row := blockBackUptoRow, standIns := [], harness := (true, "aaa87a74442972fbc2d739f2b0cb0fbbf93567dae838c9c99f7c4f2586614283"), looks := true }, kinds := [], alts := [], laidByText := true, laidKinds := [.data, .sentinel, .pinned], laidTests := true, laidLooks := .later }
def BlockBackUptoCardSaid : Prop := Claim7.holds Tryd.pinned (.plain (OpenSpec.upto blockBackSpec)) blockBackUptoCard

/-- THE SECOND FORM's CARD OF 'joistlaw08.BlockCuts'. -/
def blockCutsUptoCard : Claim7 := { stood := { row := blockCutsUptoRow, standIns := [], harness := (true, "aaa87a74442972fbc2d739f2b0cb0fbbf93567dae838c9c99f7c4f2586614283"), looks := true }, kinds := [], alts := [], laidByText := true, laidKinds := [.data, .sentinel, .pinned], laidTests := true, laidLooks := .later }
def BlockCutsUptoCardSaid : Prop := Claim7.holds Tryd.pinned (.plain (OpenSpec.upto blockCutsSpec)) blockCutsUptoCard

/-- THE SECOND FORM's CARD OF 'joistlaw08.BlockFinds'. -/
def blockFindsUptoCard : Claim7 := { stood := { row := blockFindsUptoRow, standIns := [], harness := (true, "aaa87a74442972fbc2d739f2b0cb0fbbf93567dae838c9c99f7c4f2586614283"), looks := true }, kinds := [], alts := [], laidByText := true, laidKinds := [.data, .sentinel, .pinned], laidTests := true, laidLooks := .later }
def BlockFindsUptoCardSaid : Prop := Claim7.holds Tryd.pinned (.plain (OpenSpec.upto blockFindsSpec)) blockFindsUptoCard
end Rows
end Go.Proofs.YtdjaofbjmnmlbaaDoor
