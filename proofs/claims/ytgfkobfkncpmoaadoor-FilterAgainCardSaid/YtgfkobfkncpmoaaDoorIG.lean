/- The listed variables of layer 6's laws: the two tables of utf8 alone. -/
import Derived.Test.YtgfkobfkncpmoaaDoorCX
namespace Go.Proofs.YtgfkobfkncpmoaaDoor
open Go.ChangeShapes Go.WideShapes Go.ChangeAt Go.RowKit Go.Joins

def seatLaid6 : List (String × DataW Unit) := [("unicode/utf8.acceptRanges", Rows.laid_unicode_utf8_acceptRanges), ("unicode/utf8.first", Rows.laid_unicode_utf8_first)]
theorem seat_met6 {W : World} (h : laidMetH Tryd.prog seatLaid6 W) : laidMet Tryd.prog seatLaid6 W := h
theorem laid_u6 {W : World} (h : laidMet Tryd.prog seatLaid6 W) : LaidU W := ⟨by
    have h3 := Lib.laidMet.reads h (n := "unicode/utf8.first") (d := Rows.laid_unicode_utf8_first) (by simp [seatLaid6])
    have h4 := Lib.laidMet.reads h (n := "unicode/utf8.acceptRanges") (d := Rows.laid_unicode_utf8_acceptRanges) (by simp [seatLaid6])
    rw [first_is] at h3
    rw [accept_is] at h4
    exact utf8Tabs_of_readsT (U8Types.of196 Tryd.lays196) u8extra h3 h4⟩
set_option maxRecDepth 1000000 in
theorem laid_met6 (os : Os) (args : Array Value) : laidMet Tryd.prog seatLaid6 ((laidWorld5 os).forCall (fun _ _ => 0) ⟨#[], args, []⟩).memory :=
  laidMet_of_run' 8 (by kernel_rfl) (by kernel_rfl)
end Go.Proofs.YtgfkobfkncpmoaaDoor
