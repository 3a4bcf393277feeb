/-
  DERIVED. GIVEN WITH THE SEED: THE CARDS: each row of YtgahljgmgdjjdaaGreatDoorRows.lean that lists a variable, with what it lists TIED to the program's text (the seventh form; the later family's looks); each row that meets fmt, with fmt's text TOLD by the authors' own Lean function (tested against real Go, not proved from fmt's source: count such statements apart). THE CARD IS WHAT COUNTS. Prove the row's statement (the work); the ties are given (YtgahljgmgdjjdaaGreatDoorTie.lean); close each card by the builder's one call (the guide's Derived/Test/ToyasCard.lean, 'card_holds'). Laid BY PROGRAM, IN A SANDBOX (cutbox-door.mjs). By AI agents, Wed Nov 11 2026. No macro, syntax, notation, axiom, sorry.
-/
import Derived.Test.YtgahljgmgdjjdaaGreatDoorRows
import GoSem.ClaimSeven
namespace Go.Proofs.YtgahljgmgdjjdaaGreatDoor
namespace Rows

/-- THE TIED CARD OF 'joistlaw02.ValAsks'. -/
def valAsksCard : Claim7 := { stood := { row := valAsksRow, standIns := [], harness := (true, "f94f01be1339fa4176536583a050caca60c37b51d84977db906fd264c263dfbe"), looks := true }, kinds := [], alts := [], laidByText := true, laidKinds := [.data, .data, .data, .data, .sentinel, .sentinel, .pinned], laidTests := true, laidLooks := .later }
def ValAsksCardSaid : Prop := Claim7.holds Tryz.pinned (.plain (OpenSpec.ofChange valAsksSpec)) valAsksCard

/-- THE TIED CARD OF 'joistlaw02.ValReads'. -/
def valReadsCard : Claim7 := { stood := { row := valReadsRow, standIns := [], harness := (true, "f94f01be1339fa4176536583a050caca60c37b51d84977db906fd264c263dfbe"), looks := true }, kinds := [], alts := [], laidByText := true, laidKinds := [.data, .data, .data, .data, .sentinel, .sentinel, .pinned], laidTests := true, laidLooks := .later }
def ValReadsCardSaid : Prop := Claim7.holds Tryz.pinned (.plain (OpenSpec.ofChange valReadsSpec)) valReadsCard

/-- THE TIED CARD OF 'joistlaw02.ValBack'. -/
def valBackCard : Claim7 := { stood := { row := valBackRow, standIns := [], harness := (true, "f94f01be1339fa4176536583a050caca60c37b51d84977db906fd264c263dfbe"), looks := true }, kinds := [], alts := [], laidByText := true, laidKinds := [.data, .data, .data, .data, .sentinel, .sentinel, .pinned], laidTests := true, laidLooks := .later }
def ValBackCardSaid : Prop := Claim7.holds Tryz.pinned (.plain (OpenSpec.ofChange valBackSpec)) valBackCard

/-- THE SECOND FORM's CARD OF 'joistlaw02.ValAsks'. -/
def valAsksUptoCard : Claim7 := { stood := { row := valAsksUptoRow, standIns := [], harness := (true, "f94f01be1339fa4176536583a050caca60c37b51d84977db906fd264c263dfbe"), looks := true }, kinds := [], alts := [], laidByText := true, laidKinds := [.data, .data, .data, .data, .sentinel, .sentinel, .pinned], laidTests := true, laidLooks := .later }
def ValAsksUptoCardSaid : Prop := Claim7.holds Tryz.pinned (.plain (OpenSpec.upto valAsksSpec)) valAsksUptoCard

/-- THE SECOND FORM's CARD OF 'joistlaw02.ValReads'. -/
def valReadsUptoCard : Claim7 := { stood := { row := valReadsUptoRow, standIns := [], harness := (true, "f94f01be1339fa4176536583a050caca60c37b51d84977db906fd264c263dfbe"), looks := true }, kinds := [], alts := [], laidByText := true, laidKinds := [.data, .data, .data, .data, .sentinel, .sentinel, .pinned], laidTests := true, laidLooks := .later }
def ValReadsUptoCardSaid : Prop := Claim7.holds Tryz.pinned (.plain (OpenSpec.upto valReadsSpec)) valReadsUptoCard

/-- THE SECOND FORM's CARD OF 'joistlaw02.ValBack'. -/
def valBackUptoCard : Claim7 := { stood := { row := valBackUptoRow, standIns := [], harness := (true, "f94f01be1339fa4176536583a050caca60c37b51d84977db906fd264c263dfbe"), looks := true }, kinds := [], alts := [], laidByText := true, laidKinds := [.data, .data, .data, .data, .sentinel, .sentinel, .pinned], laidTests := true, laidLooks := .later }
def ValBackUptoCardSaid : Prop := Claim7.holds Tryz.pinned (.plain (OpenSpec.upto valBackSpec)) valBackUptoCard
end Rows
end Go.Proofs.YtgahljgmgdjjdaaGreatDoor
