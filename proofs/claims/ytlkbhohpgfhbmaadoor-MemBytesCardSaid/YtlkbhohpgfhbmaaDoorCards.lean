/-
  DERIVED. GIVEN WITH THE SEED: THE CARDS: each row of YtlkbhohpgfhbmaaDoorRows.lean that lists a variable, with what it lists TIED to the program's text (the seventh form; the later family's looks); each row that meets fmt, with fmt's text TOLD by the authors' own Lean function (tested against real Go, not proved from fmt's source: count such statements apart). THE CARD IS WHAT COUNTS. Prove the row's statement (the work); the ties are given (YtlkbhohpgfhbmaaDoorTie.lean); close each card by the builder's one call (the guide's Derived/Test/ToyasCard.lean, 'card_holds'). Laid BY PROGRAM, IN A SANDBOX (cutbox-door.mjs). By AI agents, Wed Nov 11 2026. No macro, syntax, notation, axiom, sorry.
-/
import Derived.Test.YtlkbhohpgfhbmaaDoorRows
import GoSem.ClaimSeven
namespace Go.Proofs.YtlkbhohpgfhbmaaDoor
namespace Rows

/-- THE TIED CARD OF 'joistlaw03.CodecReads'. -/
def codecReadsCard : Claim7 := { stood := { row := codecReadsRow, standIns := [], harness := (true, "2f3dd68dcc14fea39aad1f0130a7b5461be20a900e33d4a9069afae46ea47898"), looks := true }, kinds := [], alts := [], laidByText := true, laidKinds := [.data, .sentinel, .pinned], laidTests := true, laidLooks := .later }
def CodecReadsCardSaid : Prop := Claim7.holds Tryd.pinned (.plain (OpenSpec.ofChange codecReadsSpec)) codecReadsCard

/-- THE TIED CARD OF 'joistlaw06.CellOrder'. -/
def cellOrderCard : Claim7 := { stood := { row := cellOrderRow, standIns := [], harness := (true, "2f3dd68dcc14fea39aad1f0130a7b5461be20a900e33d4a9069afae46ea47898"), looks := true }, kinds := [], alts := [], laidByText := true, laidKinds := [.data, .pinned], laidTests := true, laidLooks := .later }
def CellOrderCardSaid : Prop := Claim7.holds Tryd.pinned (.plain (OpenSpec.ofChange cellOrderSpec)) cellOrderCard

/-- THE TIED CARD OF 'joistlaw06.CellSame'. -/
def cellSameCard : Claim7 := { stood := { row := cellSameRow, standIns := [], harness := (true, "2f3dd68dcc14fea39aad1f0130a7b5461be20a900e33d4a9069afae46ea47898"), looks := true }, kinds := [], alts := [], laidByText := true, laidKinds := [.data, .pinned], laidTests := true, laidLooks := .later }
def CellSameCardSaid : Prop := Claim7.holds Tryd.pinned (.plain (OpenSpec.ofChange cellSameSpec)) cellSameCard

/-- THE TIED CARD OF 'joistlaw06.CellGone'. -/
def cellGoneCard : Claim7 := { stood := { row := cellGoneRow, standIns := [], harness := (true, "2f3dd68dcc14fea39aad1f0130a7b5461be20a900e33d4a9069afae46ea47898"), looks := true }, kinds := [], alts := [], laidByText := true, laidKinds := [.data, .pinned], laidTests := true, laidLooks := .later }
def CellGoneCardSaid : Prop := Claim7.holds Tryd.pinned (.plain (OpenSpec.ofChange cellGoneSpec)) cellGoneCard

/-- THE TIED CARD OF 'joistlaw06.CellFew'. -/
def cellFewCard : Claim7 := { stood := { row := cellFewRow, standIns := [], harness := (true, "2f3dd68dcc14fea39aad1f0130a7b5461be20a900e33d4a9069afae46ea47898"), looks := true }, kinds := [], alts := [], laidByText := true, laidKinds := [.data, .pinned], laidTests := true, laidLooks := .later }
def CellFewCardSaid : Prop := Claim7.holds Tryd.pinned (.plain (OpenSpec.ofChange cellFewSpec)) cellFewCard

/-- THE TIED CARD OF 'joistlaw06.CellApart'. -/
def cellApartCard : Claim7 := { stood := { row := cellApartRow, standIns := [], harness := (true, "2f3dd68dcc14fea39aad1f0130a7b5461be20a900e33d4a9069afae46ea47898"), looks := true }, kinds := [], alts := [], laidByText := true, laidKinds := [.data, .pinned], laidTests := true, laidLooks := .later }
def CellApartCardSaid : Prop := Claim7.holds Tryd.pinned (.plain (OpenSpec.ofChange cellApartSpec)) cellApartCard

/-- THE TIED CARD OF 'joistlaw06.CellLess'. -/
def cellLessCard : Claim7 := { stood := { row := cellLessRow, standIns := [], harness := (true, "2f3dd68dcc14fea39aad1f0130a7b5461be20a900e33d4a9069afae46ea47898"), looks := true }, kinds := [], alts := [], laidByText := true, laidKinds := [.data, .pinned], laidTests := true, laidLooks := .later }
def CellLessCardSaid : Prop := Claim7.holds Tryd.pinned (.plain (OpenSpec.ofChange cellLessSpec)) cellLessCard

/-- THE TIED CARD OF 'joistlaw07.MemPuts'. -/
def memPutsCard : Claim7 := { stood := { row := memPutsRow, standIns := [], harness := (true, "2f3dd68dcc14fea39aad1f0130a7b5461be20a900e33d4a9069afae46ea47898"), looks := true }, kinds := [], alts := [], laidByText := true, laidKinds := [.data, .sentinel, .pinned], laidTests := true, laidLooks := .later }
def MemPutsCardSaid : Prop := Claim7.holds Tryd.pinned (.plain (OpenSpec.ofChange memPutsSpec)) memPutsCard

/-- THE TIED CARD OF 'joistlaw07.MemFrom'. -/
def memFromCard : Claim7 := { stood := { row := memFromRow, standIns := [], harness := (true, "2f3dd68dcc14fea39aad1f0130a7b5461be20a900e33d4a9069afae46ea47898"), looks := true }, kinds := [], alts := [], laidByText := true, laidKinds := [.data, .sentinel, .pinned], laidTests := true, laidLooks := .later }
def MemFromCardSaid : Prop := Claim7.holds Tryd.pinned (.plain (OpenSpec.ofChange memFromSpec)) memFromCard

/-- THE TIED CARD OF 'joistlaw07.MemOrder'. -/
def memOrderCard : Claim7 := { stood := { row := memOrderRow, standIns := [], harness := (true, "2f3dd68dcc14fea39aad1f0130a7b5461be20a900e33d4a9069afae46ea47898"), looks := true }, kinds := [], alts := [], laidByText := true, laidKinds := [.data, .sentinel, .pinned], laidTests := true, laidLooks := .later }
def MemOrderCardSaid : Prop := Claim7.holds Tryd.pinned (.plain (OpenSpec.ofChange memOrderSpec)) memOrderCard

/-- THE TIED CARD OF 'joistlaw07.MemBytes'. -/
def memBytesCard : Claim7 := { stood := { row := memBytesRow, standIns := [], harness := (true, "2f3dd68dcc14fea39aad1f0130a7b5461be20a900e33d4a9069afae46ea47898"), looks := true }, kinds := [], alts := [], laidByText := true, laidKinds := [.data, .sentinel, .pinned], laidTests := true, laidLooks := .later }
def MemBytesCardSaid : Prop := Claim7.holds Tryd.pinned (.plain (OpenSpec.ofChange memBytesSpec)) memBytesCard

/-- THE SECOND FORM's CARD OF 'joistlaw03.CodecReads'. -/
def codecReadsUptoCard : Claim7 := { stood := { row := codecReadsUptoRow, standIns := [], harness := (true, "2f3dd68dcc14fea39aad1f0130a7b5461be20a900e33d4a9069afae46ea47898"), looks := true }, kinds := [], alts := [], laidByText := true, laidKinds := [.data, .sentinel, .pinned], laidTests := true, laidLooks := .later }
def CodecReadsUptoCardSaid : Prop := Claim7.holds Tryd.pinned (.plain (OpenSpec.upto codecReadsSpec)) codecReadsUptoCard

/-- THE SECOND FORM's CARD OF 'joistlaw06.CellOrder'. -/
def cellOrderUptoCard : Claim7 := { stood := { row := cellOrderUptoRow, standIns := [], harness := (true, "2f3dd68dcc14fea39aad1f0130a7b5461be20a900e33d4a9069afae46ea47898"), looks := true }, kinds := [], alts := [], laidByText := true, laidKinds := [.data, .pinned], laidTests := true, laidLooks := .later }
def CellOrderUptoCardSaid : Prop := Claim7.holds Tryd.pinned (.plain (OpenSpec.upto cellOrderSpec)) cellOrderUptoCard

/-- THE SECOND FORM's CARD OF 'joistlaw06.CellSame'. -/
def cellSameUptoCard : Claim7 := { stood := { row := cellSameUptoRow, standIns := [], harness := (true, "2f3dd68dcc14fea39aad1f0130a7b5461be20a900e33d4a9069afae46ea47898"), looks := true }, kinds := [], alts := [], laidByText := true, laidKinds := [.data, .pinned], laidTests := true, laidLooks := .later }
def CellSameUptoCardSaid : Prop := Claim7.holds Tryd.pinned (.plain (OpenSpec.upto cellSameSpec)) cellSameUptoCard

/-- THE SECOND FORM's CARD OF 'joistlaw06.CellGone'. -/
def cellGoneUptoCard : Claim7 := { stood := { row := cellGoneUptoRow, standIns := [], harness := (true, "2f3dd68dcc14fea39aad1f0130a7b5461be20a900e33d4a9069afae46ea47898"), looks := true }, kinds := [], alts := [], laidByText := true, laidKinds := [.data, .pinned], laidTests := true, laidLooks := .later }
def CellGoneUptoCardSaid : Prop := Claim7.holds Tryd.pinned (.plain (OpenSpec.upto cellGoneSpec)) cellGoneUptoCard

/-- THE SECOND FORM's CARD OF 'joistlaw06.CellFew'. -/
def cellFewUptoCard : Claim7 := { stood := { row := cellFewUptoRow, standIns := [], harness := (true, "2f3dd68dcc14fea39aad1f0130a7b5461be20a900e33d4a9069afae46ea47898"), looks := true }, kinds := [], alts := [], laidByText := true, laidKinds := [.data, .pinned], laidTests := true, laidLooks := .later }
def CellFewUptoCardSaid : Prop := Claim7.holds Tryd.pinned (.plain (OpenSpec.upto cellFewSpec)) cellFewUptoCard

/-- THE SECOND FORM's CARD OF 'joistlaw06.CellApart'. -/
def cellApartUptoCard : Claim7 := { stood := { row := cellApartUptoRow, standIns := [], harness := (true, "2f3dd68dcc14fea39aad1f0130a7b5461be20a900e33d4a9069afae46ea47898"), looks := true }, kinds := [], alts := [], laidByText := true, laidKinds := [.data, .pinned], laidTests := true, laidLooks := .later }
def CellApartUptoCardSaid : Prop := Claim7.holds Tryd.pinned (.plain (OpenSpec.upto cellApartSpec)) cellApartUptoCard

/-- THE SECOND FORM's CARD OF 'joistlaw06.CellLess'. -/
def cellLessUptoCard : Claim7 := { stood := { row := cellLessUptoRow, standIns := [], harness := (true, "2f3dd68dcc14fea39aad1f0130a7b5461be20a900e33d4a9069afae46ea47898"), looks := true }, kinds := [], alts := [], laidByText := true, laidKinds := [.data, .pinned], laidTests := true, laidLooks := .later }
def CellLessUptoCardSaid : Prop := Claim7.holds Tryd.pinned (.plain (OpenSpec.upto cellLessSpec)) cellLessUptoCard

/-- THE SECOND FORM's CARD OF 'joistlaw07.MemPuts'. -/
def memPutsUptoCard : Claim7 := { stood := { row := memPutsUptoRow, standIns := [], harness := (true, "2f3dd68dcc14fea39aad1f0130a7b5461be20a900e33d4a9069afae46ea47898"), looks := true }, kinds := [], alts := [], laidByText := true, laidKinds := [.data, .sentinel, .pinned], laidTests := true, laidLooks := .later }
def MemPutsUptoCardSaid : Prop := Claim7.holds Tryd.pinned (.plain (OpenSpec.upto memPutsSpec)) memPutsUptoCard

/-- THE SECOND FORM's CARD OF 'joistlaw07.MemFrom'. -/
def memFromUptoCard : Claim7 := { stood := { row := memFromUptoRow, standIns := [], harness := (true, "2f3dd68dcc14fea39aad1f0130a7b5461be20a900e33d4a9069afae46ea47898"), looks := true }, kinds := [], alts := [], laidByText := true, laidKinds := [.data, .sentinel, .pinned], laidTests := true, laidLooks := .later }
def MemFromUptoCardSaid : Prop := Claim7.holds Tryd.pinned (.plain (OpenSpec.upto memFromSpec)) memFromUptoCard

/-- THE SECOND FORM's CARD OF 'joistlaw07.MemOrder'. -/
def memOrderUptoCard : Claim7 := { stood := { row := memOrderUptoRow, standIns := [], harness := (true, "2f3dd68dcc14fea39aad1f0130a7b5461be20a900e33d4a9069afae46ea47898"), looks := true }, kinds := [], alts := [], laidByText := true, laidKinds := [.data, .sentinel, .pinned], laidTests := true, laidLooks := .later }
def MemOrderUptoCardSaid : Prop := Claim7.holds Tryd.pinned (.plain (OpenSpec.upto memOrderSpec)) memOrderUptoCard

/-- THE SECOND FORM's CARD OF 'joistlaw07.MemBytes'. -/
def memBytesUptoCard : Claim7 := { stood := { row := memBytesUptoRow, standIns := [], harness := (true, "2f3dd68dcc14fea39aad1f0130a7b5461be20a900e33d4a9069afae46ea47898"), looks := true }, kinds := [], alts := [], laidByText := true, laidKinds := [.data, .sentinel, .pinned], laidTests := true, laidLooks := .later }
def MemBytesUptoCardSaid : Prop := Claim7.holds Tryd.pinned (.plain (OpenSpec.upto memBytesSpec)) memBytesUptoCard
end Rows
end Go.Proofs.YtlkbhohpgfhbmaaDoor
