/-
  DERIVED. GIVEN WITH THE SEED: THE CARDS: each row of YtjbjdkginemedaaGreatDoorRows.lean that lists a variable, with what it lists TIED to the program's text (the seventh form; the later family's looks); each row that meets fmt, with fmt's text TOLD by the authors' own Lean function (tested against real Go, not proved from fmt's source: count such statements apart). THE CARD IS WHAT COUNTS. Prove the row's statement (the work); the ties are given (YtjbjdkginemedaaGreatDoorTie.lean); close each card by the builder's one call (the guide's Derived/Test/ToyasCard.lean, 'card_holds'). Laid BY PROGRAM, IN A SANDBOX (cutbox-door.mjs). By AI agents, Wed Nov 11 2026. No macro, syntax, notation, axiom, sorry.
-/
import Derived.Test.YtjbjdkginemedaaGreatDoorRows
import GoSem.ClaimSeven
namespace Go.Proofs.YtjbjdkginemedaaGreatDoor
namespace Rows

/-- THE TIED CARD OF 'joistlaw08.BlockBuilds'. -/
def blockBuildsCard : Claim7 := { stood := { row := blockBuildsRow, standIns := [], harness := (true, "1ff6f3c951db2d6b1cbf2c08e2bc5d9713c447de0125051dc521f28e5050183a"), looks := true }, kinds := [], alts := [], laidByText := true, laidKinds := [.data, .sentinel, .pinned], laidTests := true, laidLooks := .later }
def BlockBuildsCardSaid : Prop := Claim7.holds Tryz.pinned (.plain (OpenSpec.ofChange blockBuildsSpec)) blockBuildsCard

/-- THE TIED CARD OF 'joistlaw08.BlockParses'. -/
def blockParsesCard : Claim7 := { stood := { row := blockParsesRow, standIns := [], harness := (true, "1ff6f3c951db2d6b1cbf2c08e2bc5d9713c447de0125051dc521f28e5050183a"), looks := true }, kinds := [], alts := [], laidByText := true, laidKinds := [.data, .sentinel, .pinned], laidTests := true, laidLooks := .later }
def BlockParsesCardSaid : Prop := Claim7.holds Tryz.pinned (.plain (OpenSpec.ofChange blockParsesSpec)) blockParsesCard

/-- THE TIED CARD OF 'joistlaw09.TableBuilds'. -/
def tableBuildsCard : Claim7 := { stood := { row := tableBuildsRow, standIns := [], harness := (true, "1ff6f3c951db2d6b1cbf2c08e2bc5d9713c447de0125051dc521f28e5050183a"), looks := true }, kinds := [], alts := [], laidByText := true, laidKinds := [.data, .sentinel, .pinned], laidTests := true, laidLooks := .later }
def TableBuildsCardSaid : Prop := Claim7.holds Tryz.pinned (.plain (OpenSpec.ofChange tableBuildsSpec)) tableBuildsCard

/-- THE TIED CARD OF 'joistlaw09.TableBack'. -/
def tableBackCard : Claim7 := { stood := { row := tableBackRow, standIns := [], harness := (true, "1ff6f3c951db2d6b1cbf2c08e2bc5d9713c447de0125051dc521f28e5050183a"), looks := true }, kinds := [], alts := [], laidByText := true, laidKinds := [.data, .sentinel, .pinned], laidTests := true, laidLooks := .later }
def TableBackCardSaid : Prop := Claim7.holds Tryz.pinned (.plain (OpenSpec.ofChange tableBackSpec)) tableBackCard

/-- THE TIED CARD OF 'joistlaw09.TableFew'. -/
def tableFewCard : Claim7 := { stood := { row := tableFewRow, standIns := [], harness := (true, "1ff6f3c951db2d6b1cbf2c08e2bc5d9713c447de0125051dc521f28e5050183a"), looks := true }, kinds := [], alts := [], laidByText := true, laidKinds := [.data, .sentinel, .pinned], laidTests := true, laidLooks := .later }
def TableFewCardSaid : Prop := Claim7.holds Tryz.pinned (.plain (OpenSpec.ofChange tableFewSpec)) tableFewCard

/-- THE TIED CARD OF 'joistlaw09.TableNear'. -/
def tableNearCard : Claim7 := { stood := { row := tableNearRow, standIns := [], harness := (true, "1ff6f3c951db2d6b1cbf2c08e2bc5d9713c447de0125051dc521f28e5050183a"), looks := true }, kinds := [], alts := [], laidByText := true, laidKinds := [.data, .sentinel, .pinned], laidTests := true, laidLooks := .later }
def TableNearCardSaid : Prop := Claim7.holds Tryz.pinned (.plain (OpenSpec.ofChange tableNearSpec)) tableNearCard

/-- THE SECOND FORM's CARD OF 'joistlaw08.BlockBuilds'. -/
def blockBuildsUptoCard : Claim7 := { stood := { row := blockBuildsUptoRow, standIns := [], harness := (true, "1ff6f3c951db2d6b1cbf2c08e2bc5d9713c447de0125051dc521f28e5050183a"), looks := true }, kinds := [], alts := [], laidByText := true, laidKinds := [.data, .sentinel, .pinned], laidTests := true, laidLooks := .later }
def BlockBuildsUptoCardSaid : Prop := Claim7.holds Tryz.pinned (.plain (OpenSpec.upto blockBuildsSpec)) blockBuildsUptoCard

/-- THE SECOND FORM's CARD OF 'joistlaw08.BlockParses'. -/
def blockParsesUptoCard : Claim7 := { stood := { row := blockParsesUptoRow, standIns := [], harness := (true, "1ff6f3c951db2d6b1cbf2c08e2bc5d9713c447de0125051dc521f28e5050183a"), looks := true }, kinds := [], alts := [], laidByText := true, laidKinds := [.data, .sentinel, .pinned], laidTests := true, laidLooks := .later }
def BlockParsesUptoCardSaid : Prop := Claim7.holds Tryz.pinned (.plain (OpenSpec.upto blockParsesSpec)) blockParsesUptoCard

/-- THE SECOND FORM's CARD OF 'joistlaw09.TableBuilds'. -/
def tableBuildsUptoCard : Claim7 := { stood := { row := tableBuildsUptoRow, standIns := [], harness := (true, "1ff6f3c951db2d6b1cbf2c08e2bc5d9713c447de0125051dc521f28e5050183a"), looks := true }, kinds := [], alts := [], laidByText := true, laidKinds := [.data, .sentinel, .pinned], laidTests := true, laidLooks := .later }
def TableBuildsUptoCardSaid : Prop := Claim7.holds Tryz.pinned (.plain (OpenSpec.upto tableBuildsSpec)) tableBuildsUptoCard

/-- THE SECOND FORM's CARD OF 'joistlaw09.TableBack'. -/
def tableBackUptoCard : Claim7 := { stood := { row := tableBackUptoRow, standIns := [], harness := (true, "1ff6f3c951db2d6b1cbf2c08e2bc5d9713c447de0125051dc521f28e5050183a"), looks := true }, kinds := [], alts := [], laidByText := true, laidKinds := [.data, .sentinel, .pinned], laidTests := true, laidLooks := .later }
def TableBackUptoCardSaid : Prop := Claim7.holds Tryz.pinned (.plain (OpenSpec.upto tableBackSpec)) tableBackUptoCard

/-- THE SECOND FORM's CARD OF 'joistlaw09.TableFew'. -/
def tableFewUptoCard : Claim7 := { stood := { row := tableFewUptoRow, standIns := [], harness := (true, "1ff6f3c951db2d6b1cbf2c08e2bc5d9713c447de0125051dc521f28e5050183a"), looks := true }, kinds := [], alts := [], laidByText := true, laidKinds := [.data, .sentinel, .pinned], laidTests := true, laidLooks := .later }
def TableFewUptoCardSaid : Prop := Claim7.holds Tryz.pinned (.plain (OpenSpec.upto tableFewSpec)) tableFewUptoCard

/-- THE SECOND FORM's CARD OF 'joistlaw09.TableNear'. -/
def tableNearUptoCard : Claim7 := { stood := { row := tableNearUptoRow, standIns := [], harness := (true, "1ff6f3c951db2d6b1cbf2c08e2bc5d9713c447de0125051dc521f28e5050183a"), looks := true }, kinds := [], alts := [], laidByText := true, laidKinds := [.data, .sentinel, .pinned], laidTests := true, laidLooks := .later }
def TableNearUptoCardSaid : Prop := Claim7.holds Tryz.pinned (.plain (OpenSpec.upto tableNearSpec)) tableNearUptoCard
end Rows
end Go.Proofs.YtjbjdkginemedaaGreatDoor
