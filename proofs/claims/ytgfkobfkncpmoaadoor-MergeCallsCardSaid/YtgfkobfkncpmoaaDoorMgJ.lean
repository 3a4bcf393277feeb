/- Next where nothing is left. Conditions: the merger stands. -/
import Derived.Test.YtgfkobfkncpmoaaDoorMgI
namespace Go.Proofs.YtgfkobfkncpmoaaDoor
open Go.RowKit

set_option maxRecDepth 100000 in
set_option maxHeartbeats 8000000 in
theorem next_no {B mb n : Nat} {v : Value} (w : World) (h : MAt w B mb v [] n) :
    Calls Tryd.prog 52 #[.pointer (some ⟨mb, 0, none⟩)] w fun e w' => e = .returned (.tuple #[(default : CT).v, .int .i64 0, .bool false]) ∧ Below w.heap.size w w' := by
  have mixed : Tryd.prog.follows .mixedOrders = true := by kernel_rfl
  have hi28 : (Tryd.prog.info? 28).map (·.size) = some 8 := by kernel_rfl
  obtain ⟨A, cv, rfl⟩ := xrow_form h.row rfl
  have H0 := hid h
  have hone0 : (default : CT).e.toArray.all (·.oneCell') = true := by rw [Array.all_eq_true_iff_forall_mem]; intro u hu; exact (default : CT).e_one u (by simpa using hu)
  clear h
  go_enter Tryd.func52, Tryd.ntmps52
  go_upto_region 1 with (fail)
  refine wp_lt9 (fun W => Hid (Below w.heap.size w W ∧ Blk W w.heap.size 28 (default : CT).e.toArray)) ⟨below_new w _, Blk.new w _ _⟩ ?_
  rintro W0 HW0
  have s0 : W0.cell? ⟨mb, 0, none⟩ = some (.slice A 0 cv) := (H0.out.below HW0.out.1).blk.cell 0
  go_wp2_with (refine wpList_store_row rfl 28 (.tmp 2) (.tmp 13) rfl w.heap.size (default : CT).e.toArray rfl rfl 28 (default : CT).e.toArray HW0.out.2 hi28 rfl hone0 ?_)
  refine bodyPost_ret (v := .tuple #[(default : CT).v, .int .i64 0, .bool false]) (results_cell_two_row rfl _ _ w.heap.size 28 (default : CT).e.toArray _ rfl (setRow_heap _ _ (default : CT).e.toArray _ _ (0, 0) HW0.out.2) Tryd.underlying28 rfl hi28 _ _ rfl rfl) rfl ?_
  exact ⟨rfl, below_row9 HW0.out.1 (Nat.le_refl _)⟩
end Go.Proofs.YtgfkobfkncpmoaaDoor
