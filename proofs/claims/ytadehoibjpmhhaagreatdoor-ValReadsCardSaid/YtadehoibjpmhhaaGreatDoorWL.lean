/- What the listed variables of layer 2's seats give: the library's variables hold what their initialisers lay. -/
import Derived.Test.YtadehoibjpmhhaaGreatDoorMA
import Derived.Test.YtadehoibjpmhhaaGreatDoorShelf
import Derived.Test.YtadehoibjpmhhaaGreatDoorCards
import Derived.Test.YtadehoibjpmhhaaGreatDoorTie
import Derived.WalkKit
import Derived.ProofKit
import Derived.OpenShut
import Derived.LaidLaws
import Derived.Deep.DeepHandedRow
import Derived.Lib.LaidTab
import Derived.Lib.LaidU8T
namespace Go.Proofs.YtadehoibjpmhhaaGreatDoor
open Go.ChangeShapes Go.WideShapes Go.ChangeAt Go.RowKit

def seatLaid : List (String × DataW Unit) := [("math/bits.deBruijn32tab", Rows.laid_math_bits_deBruijn32tab), ("math/bits.deBruijn64tab", Rows.laid_math_bits_deBruijn64tab), ("internal/strconv.uint64pow10", Rows.laid_internal_strconv_uint64pow10), ("unicode/utf8.acceptRanges", Rows.laid_unicode_utf8_acceptRanges), ("strconv.ErrRange", Rows.laid_strconv_ErrRange), ("strconv.ErrSyntax", Rows.laid_strconv_ErrSyntax), ("unicode/utf8.first", Rows.laid_unicode_utf8_first)]

theorem seat_own : ownKnob Tryz.prog.godebug = none := by kernel_rfl
theorem seat_met {W : World} (h : laidMetH Tryz.prog seatLaid W) : laidMet Tryz.prog seatLaid W := h

theorem g64 : Tryz.prog.globalNamed "math/bits.deBruijn64tab" = some 8 := by kernel_rfl
theorem g64type : (Tryz.prog.globals[8]?).map (·.type) = some 133 := by kernel_rfl
theorem cells64 : Tryz.prog.cellsOf 133 = 64 := by kernel_rfl
theorem cells1 : Tryz.prog.cellsOf 5 = 1 := by kernel_rfl
def tab64 : List Int := [0, 1, 56, 2, 57, 49, 28, 3, 61, 58, 42, 50, 38, 29, 17, 4, 62, 47, 59, 36, 45, 43, 51, 22, 53, 39, 33, 30, 24, 18, 12, 5, 63, 55, 48, 27, 60, 41, 37, 16, 46, 35, 44, 21, 52, 32, 23, 11, 54, 26, 40, 15, 34, 20, 31, 10, 25, 14, 19, 9, 13, 8, 7, 6]
theorem tab64_is : (Rows.laid_math_bits_deBruijn64tab : DataW Unit) = Lib.tabData .u8 tab64 := rfl
theorem gpowtype : (Tryz.prog.globals[6]?).map (·.type) = some 123 := by kernel_rfl
theorem cells20 : Tryz.prog.cellsOf 123 = 20 := by kernel_rfl
theorem cells1u : Tryz.prog.cellsOf 37 = 1 := by kernel_rfl
theorem pow_is : (Rows.laid_internal_strconv_uint64pow10 : DataW Unit) = Lib.tabData .u64 Lib.pow10Tab := by kernel_rfl
theorem accept_is : (Rows.laid_unicode_utf8_acceptRanges : DataW Unit) = Lib.acceptData := by kernel_rfl
theorem first_is : (Rows.laid_unicode_utf8_first : DataW Unit) = Lib.firstData := by kernel_rfl
theorem gsyn : Tryz.prog.globalNamed "strconv.ErrSyntax" = some 4 := by kernel_rfl
theorem gsyntype : (Tryz.prog.globals[4]?).map (·.type) = some 62 := by kernel_rfl
theorem grng : Tryz.prog.globalNamed "strconv.ErrRange" = some 5 := by kernel_rfl
theorem grngtype : (Tryz.prog.globals[5]?).map (·.type) = some 62 := by kernel_rfl

theorem u8extra : U8Extra Tryz.prog Tryz.lays196_ren where
  n3 := by kernel_rfl
  n4 := by kernel_rfl
  y3 := by kernel_rfl
  y4 := by kernel_rfl
  c5 := by kernel_rfl
  c119 := by kernel_rfl
  c138 := by kernel_rfl

theorem laid_in {W : World} (h : laidMet Tryz.prog seatLaid W) : LaidIn W where
  tz := by
    obtain ⟨g, t, cs, fuel, p, hg, ht, hvar, hd⟩ := Lib.laidMet.reads h (n := "math/bits.deBruijn64tab") (d := Rows.laid_math_bits_deBruijn64tab) (by simp [seatLaid])
    obtain rfl := Option.some.inj (g64.symm.trans hg)
    obtain rfl := Option.some.inj (g64type.symm.trans ht)
    have ht : Lib.TabIs Tryz.prog W "math/bits.deBruijn64tab" .u8 tab64 := by
      unfold Lib.TabIs
      rw [hvar, ← Lib.cells_of_tab Tryz.underlying133 Tryz.underlying5 cells1 cells64 (by rw [← tab64_is]; exact hd)]
    exact ht.cell g64 15 (by decide)
  errs := by
    obtain ⟨ga, ta, ca, fa, pa, hga, hta, hva, hda⟩ := Lib.laidMet.reads h (n := "strconv.ErrRange") (d := Rows.laid_strconv_ErrRange) (by simp [seatLaid])
    obtain ⟨gb, tb, cb, fb, pb, hgb, htb, hvb, hdb⟩ := Lib.laidMet.reads h (n := "strconv.ErrSyntax") (d := Rows.laid_strconv_ErrSyntax) (by simp [seatLaid])
    obtain rfl := Option.some.inj (grng.symm.trans hga)
    obtain rfl := Option.some.inj (grngtype.symm.trans hta)
    obtain rfl := Option.some.inj (gsyn.symm.trans hgb)
    obtain rfl := Option.some.inj (gsyntype.symm.trans htb)
    obtain ⟨_, u, v, hc, _, _⟩ := iface_of_trod Tryz.underlying62 hda
    obtain ⟨_, u', v', hc', _, _⟩ := iface_of_trod Tryz.underlying62 hdb
    have e1 : ca = #[.iface u v] := by cases ca; simp_all
    have e2 : cb = #[.iface u' v'] := by cases cb; simp_all
    have r1 := World.var?_cell grng hva 0
    have r2 := World.var?_cell gsyn hvb 0
    rw [e1] at r1
    rw [e2] at r2
    exact ⟨⟨u', v', r2⟩, ⟨u, v, r1⟩⟩
  toLaidU := ⟨by
    have h3 := Lib.laidMet.reads h (n := "unicode/utf8.first") (d := Rows.laid_unicode_utf8_first) (by simp [seatLaid])
    have h4 := Lib.laidMet.reads h (n := "unicode/utf8.acceptRanges") (d := Rows.laid_unicode_utf8_acceptRanges) (by simp [seatLaid])
    rw [first_is] at h3
    rw [accept_is] at h4
    exact utf8Tabs_of_readsT (U8Types.of196 Tryz.lays196) u8extra h3 h4⟩
  pow := by
    obtain ⟨g, t, cs, fuel, p, hg, ht, hvar, hd⟩ := Lib.laidMet.reads h (n := "internal/strconv.uint64pow10") (d := Rows.laid_internal_strconv_uint64pow10) (by simp [seatLaid])
    obtain rfl := Option.some.inj (gpow10.symm.trans hg)
    obtain rfl := Option.some.inj (gpowtype.symm.trans ht)
    unfold Lib.TabIs
    rw [hvar, ← Lib.cells_of_tab Tryz.underlying123 Tryz.underlying37 cells1u cells20 (by rw [← pow_is]; exact hd)]

end Go.Proofs.YtadehoibjpmhhaaGreatDoor
