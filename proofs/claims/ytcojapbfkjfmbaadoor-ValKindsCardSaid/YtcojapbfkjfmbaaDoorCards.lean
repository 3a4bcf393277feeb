/-
  DERIVED. GIVEN WITH THE SEED: THE CARDS: each row of YtcojapbfkjfmbaaDoorRows.lean that lists a variable, with what it lists TIED to the program's text (the seventh form; the later family's looks); each row that meets fmt, with fmt's text TOLD by the authors' own Lean function (tested against real Go, not proved from fmt's source: count such statements apart). THE CARD IS WHAT COUNTS. Prove the row's statement (the work); the ties are given (YtcojapbfkjfmbaaDoorTie.lean); close each card by the builder's one call (the guide's Derived/Test/ToyasCard.lean, 'card_holds'). Laid BY PROGRAM, IN A SANDBOX (cutbox-door.mjs). By AI agents, Wed Nov 11 2026. No macro, syntax, notation, axiom, sorry.
-/
import Derived.Test.YtcojapbfkjfmbaaDoorRows
import GoSem.ClaimSeven
namespace Go.Proofs.YtcojapbfkjfmbaaDoor
namespace Rows

/-- THE TIED CARD OF 'joistlaw02.ValBytes'. -/
def valBytesCard : Claim7 := { stood := { row := valBytesRow, standIns := [], harness := (true, "957fe489c8ddeb2604d00825714a5ac99d809eb4a10d645aec351b0cec9d076f"), looks := true }, kinds := [], alts := [], laidByText := true, laidKinds := [.data, .data, .data, .data, .sentinel, .sentinel, .pinned], laidTests := true, laidLooks := .later }
def ValBytesCardSaid : Prop := Claim7.holds Tryd.pinned (.plain (OpenSpec.ofChange valBytesSpec)) valBytesCard

/-- THE TIED CARD OF 'joistlaw02.ValOrder'. -/
def valOrderCard : Claim7 := { stood := { row := valOrderRow, standIns := [], harness := (true, "957fe489c8ddeb2604d00825714a5ac99d809eb4a10d645aec351b0cec9d076f"), looks := true }, kinds := [], alts := [], laidByText := true, laidKinds := [.data, .data, .data, .data, .sentinel, .sentinel, .pinned], laidTests := true, laidLooks := .later }
def ValOrderCardSaid : Prop := Claim7.holds Tryd.pinned (.plain (OpenSpec.ofChange valOrderSpec)) valOrderCard

/-- THE TIED CARD OF 'joistlaw02.ValKinds'. -/
def valKindsCard : Claim7 := { stood := { row := valKindsRow, standIns := [], harness := (true, "957fe489c8ddeb2604d00825714a5ac99d809eb4a10d645aec351b0cec9d076f"), looks := true }, kinds := [], alts := [], laidByText := true, laidKinds := [.data, .data, .data, .data, .sentinel, .sentinel, .pinned], laidTests := true, laidLooks := .later }
def ValKindsCardSaid : Prop := Claim7.holds Tryd.pinned (.plain (OpenSpec.ofChange valKindsSpec)) valKindsCard

/-- THE SECOND FORM's CARD OF 'joistlaw02.ValBytes'. -/
def valBytesUptoCard : Claim7 := { stood := { row := valBytesUptoRow, standIns := [], harness := (true, "957fe489c8ddeb2604d00825714a5ac99d809eb4a10d645aec351b0cec9d076f"), looks := true }, kinds := [], alts := [], laidByText := true, laidKinds := [.data, .data, .data, .data, .sentinel, .sentinel, .pinned], laidTests := true, laidLooks := .later }
def ValBytesUptoCardSaid : Prop := Claim7.holds Tryd.pinned (.plain (OpenSpec.upto valBytesSpec)) valBytesUptoCard

/-- THE SECOND FORM's CARD OF 'joistlaw02.ValOrder'. -/
def valOrderUptoCard : Claim7 := { stood := { row := valOrderUptoRow, standIns := [], harness := (true, "957fe489c8ddeb2604d00825714a5ac99d809eb4a10d645aec351b0cec9d076f"), looks := true }, kinds := [], alts := [], laidByText := true, laidKinds := [.data, .data, .data, .data, .sentinel, .sentinel, .pinned], laidTests := true, laidLooks := .later }
def ValOrderUptoCardSaid : Prop := Claim7.holds Tryd.pinned (.plain (OpenSpec.upto valOrderSpec)) valOrderUptoCard

/-- THE SECOND FORM's CARD OF 'joistlaw02.ValKinds'. -/
def valKindsUptoCard : Claim7 := { stood := { row := valKindsUptoRow, standIns := [], harness := (true, "957fe489c8ddeb2604d00825714a5ac99d809eb4a10d645aec351b0cec9d076f"), looks := true }, kinds := [], alts := [], laidByText := true, laidKinds := [.data, .data, .data, .data, .sentinel, .sentinel, .pinned], laidTests := true, laidLooks := .later }
def ValKindsUptoCardSaid : Prop := Claim7.holds Tryd.pinned (.plain (OpenSpec.upto valKindsSpec)) valKindsUptoCard
end Rows
end Go.Proofs.YtcojapbfkjfmbaaDoor
