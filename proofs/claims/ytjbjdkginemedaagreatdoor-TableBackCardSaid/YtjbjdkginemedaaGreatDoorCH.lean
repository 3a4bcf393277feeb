/- codec.Key and First: the bytes of every right cell, and of every text that is no longer than a thousand bytes. Conditions: the texts are no longer than any are, the number of the value one of 64 bits; the tables of utf8 read as they are laid. -/
import Derived.Test.YtjbjdkginemedaaGreatDoorQA
namespace Go.Proofs.YtjbjdkginemedaaGreatDoor
open Go.RowKit

set_option maxRecDepth 100000 in
set_option maxHeartbeats 2000000 in
theorem first_any (s : ByteArray) (hs : s.size ≤ 1000) (w : World) :
    Calls Tryz.prog 87 #[.string s] w fun e w' => ∃ v, e = .returned v ∧ Row w' w.heap.size v (esc s.data.toList ++ [0, 1]) ∧ Below w.heap.size w w' := by
  have HT : Hid (Calls Tryz.prog 136 #[.pointer (some ⟨w.heap.size, 0, none⟩), .string s] (wr0 w) fun e w' => e = .returned (.tuple #[]) ∧ Wr w' w.heap.size w.heap.size ([] ++ (esc s.data.toList ++ [0, 1])) ∧ WF w.heap.size w.heap.size (wr0 w) w') :=
    wtext_any w.heap.size w.heap.size s hs [] (by decide) _ (wr_new w w.heap.size (Nat.le_refl _)) (by simp)
  go_enter Tryz.func87, Tryz.ntmps87
  go_wp2_with (first | (go_at_call 136; refine HT.out.mono ?_; rintro e w1 ⟨rfl, h1, h2⟩) | (go_at_call 97; refine (wbytes_any _ _ _ _ h1).mono ?_; rintro e w2 ⟨v, rfl, h3, h4⟩))
  go_ret
  exact ⟨_, rfl, h3, (((Below.refl _ _).alloc (Nat.le_refl _) _).trans h2.below).trans (h4.mono (by have := h2.size; simp at this; omega))⟩
end Go.Proofs.YtjbjdkginemedaaGreatDoor
