/- What the library's variables hold when a law begins, in one word, and that it lasts while the call only makes memory of its own. -/
import Derived.Test.YtgahljgmgdjjdaaGreatDoorFC
import Derived.Lib.SmallJoins
import Derived.Lib.ItoaNum
import Derived.Shelf.Unicode.DecodeSlow
namespace Go.Proofs.YtgahljgmgdjjdaaGreatDoor
open Go.RowKit

/-- The two error variables hold errors. -/
def ErrsIn (w : World) : Prop := (∃ t p, w.cell? ⟨5, 0, none⟩ = some (.iface t p)) ∧ (∃ t p, w.cell? ⟨6, 0, none⟩ = some (.iface t p))
theorem ErrsIn.below {w W : World} (h : ErrsIn w) (hW : Below w.heap.size w W) : ErrsIn W := by
  obtain ⟨⟨t, p, h1⟩, ⟨t', p', h2⟩⟩ := h
  exact ⟨⟨t, p, by rw [hW.cell (cell_lt h1)]; exact h1⟩, ⟨t', p', by rw [hW.cell (cell_lt h2)]; exact h2⟩⟩

theorem gpow10 : Tryz.prog.globalNamed "internal/strconv.uint64pow10" = some 4 := by kernel_rfl

/-- The library's variables hold what their initialisers lay. -/
structure LaidU (w : World) : Prop where
  utf : Lib.Utf8Tabs 0 1 w
structure LaidIn (w : World) : Prop extends LaidU w where
  tz : w.cell? ⟨8, 15, none⟩ = some (.int .u8 4)
  errs : ErrsIn w
  pow : Lib.TabIs Tryz.prog w "internal/strconv.uint64pow10" .u64 Lib.pow10Tab

instance {w : World} : CoeOut (LaidIn w) (LaidU w) := ⟨LaidIn.toLaidU⟩

theorem LaidU.below {w W : World} (h : LaidU w) (hW : Below w.heap.size w W) : LaidU W where
  utf := ⟨fun c hc => by have := h.utf.1 c hc; rw [hW.cell (cell_lt this)]; exact this,
    fun i hi => ⟨by have := (h.utf.2 i hi).1; rw [hW.cell (cell_lt this)]; exact this, by have := (h.utf.2 i hi).2; rw [hW.cell (cell_lt this)]; exact this⟩⟩
theorem LaidIn.below {w W : World} (h : LaidIn w) (hW : Below w.heap.size w W) : LaidIn W where
  toLaidU := h.toLaidU.below hW
  tz := by rw [hW.cell (cell_lt h.tz)]; exact h.tz
  errs := h.errs.below hW
  pow := Joins.tab_stays gpow10 h.pow hW (Nat.le_refl _)

end Go.Proofs.YtgahljgmgdjjdaaGreatDoor
