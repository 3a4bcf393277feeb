/- The fixed frame of layer 4's laws (alive): true in any world. No condition. -/
import Derived.Test.YtadehoibjpmhhaaDoorSO
import Derived.Lib.SlBytesConst
namespace Go.Proofs.YtadehoibjpmhhaaDoor
open Go.RowKit

theorem sla_new (w : World) (l : List UInt8) (hl : l.length ≤ 1000) (T : TypeId) (cs : Array Value) (h : cs = (bc l).toArray) (hT : T = 5) : SlA (w.alloc (.cells cs T)) (.slice (some ⟨w.heap.size, 0, none⟩) l.length l.length) l := by
  subst h; subst hT
  exact (Row.new w w.heap.size (Nat.le_refl _) l (by unfold maxLen; omega)).sla
theorem fix_frame : frameM [97] = [1, 97, 0, 98, 0, 98] := by decide +kernel
theorem fix_next : nextM [1, 97, 0, 98, 0, 98, 7] = .whole [97] [7] := by
  have h := next_frame [97] [7] (by decide)
  rw [fix_frame] at h
  exact h

set_option maxRecDepth 100000 in
set_option maxHeartbeats 4000000 in
theorem alive4_any (w : World) : Calls Tryd.prog 37 #[] w fun e w' => e = .returned (.bool true) ∧ Below w.heap.size w w' := by
  have HF : Hid (∀ W : World, Calls Tryd.prog 38 #[.slice (some ⟨W.heap.size, 0, none⟩) 1 1] (W.alloc (.cells #[.int .u8 97] 5 (1, 2))) fun e w' => ∃ A c, e = .returned (.tuple #[.slice A 6 c, .bool true]) ∧ Hid (SlA w' (.slice A 6 c) [1, 97, 0, 98, 0, 98]) ∧ Below W.heap.size W w') := fun W => by
    have hs : SlA (W.alloc (.cells #[.int .u8 97] 5 (1, 2))) (.slice (some ⟨W.heap.size, 0, none⟩) 1 1) [97] := by
      refine ⟨_, 1, rfl, by simp, by omega, fun _ => ⟨W.heap.size, 0, rfl, fun i hi => ?_⟩, fun h => by cases h⟩
      have hi0 : i = 0 := by simpa using hi
      subst hi0
      exact World.cell?_alloc_mark W #[.int .u8 97] 5 (1, 2) 0
    refine (frame_any _ [97] (by decide) _ hs).mono ?_
    rintro e w' ⟨v, rfl, hR, hb⟩
    rw [fix_frame] at hR
    obtain ⟨A, c, rfl, hx⟩ := hR.sla
    exact ⟨A, c, rfl, ⟨A, c, rfl, hx⟩, (below_new W _).trans (hb.mono (by simp))⟩
  have HN : Hid (∀ W : World, Calls Tryd.prog 40 #[.slice (some ⟨W.heap.size, 0, none⟩) 7 7] (W.alloc (.cells #[.int .u8 1, .int .u8 97, .int .u8 0, .int .u8 98, .int .u8 0, .int .u8 98, .int .u8 7] 5)) fun e w' => ∃ A1 c1 A2 c2, e = .returned (.tuple #[.slice A1 1 c1, .slice A2 1 c2, .int .i64 0]) ∧ Hid (SlA w' (.slice A1 1 c1) [97]) ∧ Below W.heap.size W w') := fun W => by
    have h := next_any _ [1, 97, 0, 98, 0, 98, 7] (by decide) _ (sla_new W [1, 97, 0, 98, 0, 98, 7] (by decide) _ _ rfl rfl)
    rw [fix_next] at h
    refine h.mono ?_
    rintro e w' ⟨v1, v2, rfl, h1, h2, hb⟩
    obtain ⟨A1, c1, rfl, hx1⟩ := h1
    obtain ⟨A2, c2, rfl, hx2⟩ := h2
    exact ⟨A1, c1, A2, c2, rfl, ⟨A1, c1, rfl, hx1⟩, (below_new W _).trans (hb.mono (by simp))⟩
  have HS : Hid (∀ (W : World) A c, SlA W (.slice A 6 c) [1, 97, 0, 98, 0, 98] → Calls Tryd.prog 24 #[.slice A 6 c, .slice (some ⟨W.heap.size, 0, none⟩) 6 6] (W.alloc (.cells #[.int .u8 1, .int .u8 97, .int .u8 0, .int .u8 98, .int .u8 0, .int .u8 98] 5)) fun e w' => e = .returned (.bool true) ∧ Below W.heap.size W w') := fun W A c h => by
    refine (same_sla _ _ [1, 97, 0, 98, 0, 98] [1, 97, 0, 98, 0, 98] (by decide) _ (h.below (below_new W _)) (sla_new W [1, 97, 0, 98, 0, 98] (by decide) _ _ rfl rfl)).mono ?_
    rintro e w' ⟨he, hb⟩
    exact ⟨he, (below_new W _).trans (hb.mono (by simp))⟩
  have HU : Hid (∀ W : World, Calls Tryd.prog 44 #[.slice none 0 0] W fun e w' => e = .returned (.int .i64 1) ∧ Below W.heap.size W w') := fun W => by
    have := sum_any none 0 [] (by simp) (by simp) (by omega) W (fun h => absurd h (by simp))
    rw [sumN_nil] at this
    exact this
  have HC : Hid (∀ (W : World) A c, SlA W (.slice A 1 c) [97] → (convert 29 9 (.slice A 1 c)).run Tryd.prog W = .ok (.string ⟨#[97]⟩) W) := fun W A c h => by
    obtain ⟨A', c', e, _, _, g, _⟩ := h
    have := conv_any (c := c') g
    rw [← e] at this
    exact this
  have h29 : (convert 29 29 (.slice (some ⟨w.heap.size, 0, none⟩) 1 1)).run Tryd.prog (w.alloc (.cells #[.int .u8 97] 5)) = .ok (.slice (some ⟨w.heap.size, 0, none⟩) 1 1) (w.alloc (.cells #[.int .u8 97] 5 (1, 2))) := Lib.run_convert_bytes_const w 29 5 #[.int .u8 97] 1 1 Tryd.underlying29 Tryd.underlying5
  go_enter Tryd.func37, Tryd.ntmps37
  go_wp2_with (first
    | (go_at_call 38; refine (HF.out _).mono ?_; rintro e w1 ⟨A, c, rfl, hS, hb1⟩)
    | (go_at_call 40; refine (HN.out _).mono ?_; rintro e w2 ⟨A1, c1, A2, c2, rfl, hS2, hb2⟩)
    | (go_at_call 24; refine (HS.out _ _ _ (hS.out.below hb2)).mono ?_; rintro e w3 ⟨rfl, hb3⟩; have hcv := HC.out _ _ _ (hS2.out.below hb3))
    | (go_at_call 44; refine (HU.out _).mono ?_; rintro e w4 ⟨rfl, hb4⟩))
  go_ret
  exact ⟨rfl, ((hb1.trans (hb2.mono hb1.size)).trans (hb3.mono (Nat.le_trans hb1.size hb2.size))).trans (hb4.mono (Nat.le_trans (Nat.le_trans hb1.size hb2.size) hb3.size))⟩
end Go.Proofs.YtadehoibjpmhhaaDoor
