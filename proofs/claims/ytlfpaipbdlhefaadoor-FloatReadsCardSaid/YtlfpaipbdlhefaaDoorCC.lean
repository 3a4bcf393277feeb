/- What the listed variables give besides: strconv.ErrSyntax and strconv.ErrRange hold errors. -/
import Derived.Test.YtlfpaipbdlhefaaDoorBB
import Derived.Test.YtlfpaipbdlhefaaDoorL
namespace Go.Proofs.YtlfpaipbdlhefaaDoor
open Go.ChangeShapes Go.WideShapes Go.ChangeAt Go.RowKit

theorem g3 : Tryd.prog.globalNamed "strconv.ErrSyntax" = some 3 := by kernel_rfl
theorem g3type : (Tryd.prog.globals[3]?).map (·.type) = some 61 := by kernel_rfl
theorem g4 : Tryd.prog.globalNamed "strconv.ErrRange" = some 4 := by kernel_rfl
theorem g4type : (Tryd.prog.globals[4]?).map (·.type) = some 61 := by kernel_rfl

theorem errs_of_laid {W : World} (h : laidMet Tryd.prog seatLaid W) : ErrsIn W := by
  obtain ⟨ps, ⟨_, _, _, _, _, _, _, _, _, _, ⟨_, _, _, _, _, _, _, _, _, _, ⟨_, _, _, _, _, _, _, _, _, _, ⟨ga, ta, ca, fa, pa, qa, hga, hta, hva, hda, ⟨gb, tb, cb, fb, pb, qb, hgb, htb, hvb, hdb, _, _⟩, _⟩, _⟩, _⟩, _⟩, _⟩ := h
  obtain rfl := Option.some.inj (g4.symm.trans hga)
  obtain rfl := Option.some.inj (g4type.symm.trans hta)
  obtain rfl := Option.some.inj (g3.symm.trans hgb)
  obtain rfl := Option.some.inj (g3type.symm.trans htb)
  obtain ⟨_, u, v, hc, _, _⟩ := iface_of_trod Tryd.underlying61 hda
  obtain ⟨_, u', v', hc', _, _⟩ := iface_of_trod Tryd.underlying61 hdb
  have e1 : ca = #[.iface u v] := by cases ca; simp_all
  have e2 : cb = #[.iface u' v'] := by cases cb; simp_all
  have r1 := World.var?_cell g4 hva 0
  have r2 := World.var?_cell g3 hvb 0
  rw [e1] at r1
  rw [e2] at r2
  exact ⟨⟨u', v', r2⟩, ⟨u, v, r1⟩⟩

end Go.Proofs.YtlfpaipbdlhefaaDoor
