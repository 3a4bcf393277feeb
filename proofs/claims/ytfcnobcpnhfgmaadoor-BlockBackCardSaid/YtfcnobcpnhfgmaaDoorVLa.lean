/- What the library's tables of utf8 hold when a law begins, in one word, and that it lasts while the call only makes memory of its own. -/
import Derived.Test.YtfcnobcpnhfgmaaDoorFK
import Derived.Lib.SmallJoins
import Derived.Shelf.Unicode.DecodeSlow
namespace Go.Proofs.YtfcnobcpnhfgmaaDoor
open Go.RowKit

/-- The library's variables hold what their initialisers lay. -/
structure LaidU (w : World) : Prop where
  utf : Lib.Utf8Tabs 1 2 w

theorem LaidU.below {w W : World} (h : LaidU w) (hW : Below w.heap.size w W) : LaidU W where
  utf := ⟨fun c hc => by have := h.utf.1 c hc; rw [hW.cell (cell_lt this)]; exact this,
    fun i hi => ⟨by have := (h.utf.2 i hi).1; rw [hW.cell (cell_lt this)]; exact this, by have := (h.utf.2 i hi).2; rw [hW.cell (cell_lt this)]; exact this⟩⟩

end Go.Proofs.YtfcnobcpnhfgmaaDoor
