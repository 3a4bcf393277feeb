/- (*store.Disk).Size. Conditions: the disk stands. -/
import Derived.Test.YtofkfafdodhmdaaDoorNI
namespace Go.Proofs.YtofkfafdodhmdaaDoor
open Go.RowKit

set_option maxHeartbeats 1000000 in
theorem size_ok {B db mb : Nat} {fs : List Fl} {z u : Int} {w : World} (h : DkAt w B db mb fs z u) : Calls Tryd.prog 25 #[.pointer (some ⟨db, 0, none⟩)] w fun e w' => e = .returned (.int .i64 (sizeF fs : Int)) ∧ Below w.heap.size w w' := by
  have m2 : w.cell? ⟨db, 2, none⟩ = some (.int .i64 (sizeF fs : Int)) := h.blk.cell 2
  clear h
  go_enter Tryd.func25, Tryd.ntmps25
  go_wp2
  go_ret
  exact ⟨rfl, Below.refl _ _⟩
end Go.Proofs.YtofkfafdodhmdaaDoor
