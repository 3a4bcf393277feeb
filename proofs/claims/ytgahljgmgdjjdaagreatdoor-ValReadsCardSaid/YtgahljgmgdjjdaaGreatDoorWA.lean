/- long (of the laws of layer 2), and what a law of two values calls. Conditions: the listed variables of the library read as they are laid; the numbers are of 64 bits. -/
import Derived.Test.YtgahljgmgdjjdaaGreatDoorVO
namespace Go.Proofs.YtgahljgmgdjjdaaGreatDoor
open Go.RowKit

theorem Agg3.new' (w : World) (g : Nat) (hg : g = w.heap.size) (k n : Int) (S : ByteArray) (T : TypeId) : Agg3 (w.alloc (.cells #[.int .i64 k, .int .i64 n, .string S] T)) g k n S := by
  subst hg
  exact Agg3.new w k n S T

theorem long_any (k n : Int) (s : ByteArray) (w : World) (hs : s.size ≤ 9223372036854775807) :
    Calls Tryz.prog 7 #[.agg #[.int .i64 k, .int .i64 n, .string s]] w fun e w' => e = .returned (.bool (decide (500 < s.size))) ∧ Below w.heap.size w w' := by
  go_enter Tryz.func7, Tryz.ntmps7
  go_wp2
  go_ret
  exact ⟨ret_bool (show decide ((500 : Int) < (s.size : Int)) = _ by simp; omega), below_new _ _⟩

theorem enc_two {k n : Int} {s : List UInt8} (h : vRight k n s = true) : 2 ≤ (vEnc k n s).length := by
  unfold vEnc vBody
  rcases right_kind h with rfl | rfl | rfl | rfl | rfl <;> simp [byW_len]

/-- Two values that the law has boxed, and what it may call. -/
structure Two (w : World) (k1 n1 : Int) (s1 : ByteArray) (k2 n2 : Int) (s2 : ByteArray) : Prop where
  alive : ∀ W, Below w.heap.size w W → Calls Tryz.prog 6 #[] W fun e w' => e = .returned (.bool true) ∧ Below w.heap.size w w' ∧ Below W.heap.size W w'
  long1 : ∀ W, Below w.heap.size w W → Calls Tryz.prog 7 #[.agg #[.int .i64 k1, .int .i64 n1, .string s1]] W fun e w' => e = .returned (.bool (decide (500 < s1.size))) ∧ Below w.heap.size w w' ∧ Below W.heap.size W w'
  long2 : ∀ W, Below w.heap.size w W → Calls Tryz.prog 7 #[.agg #[.int .i64 k2, .int .i64 n2, .string s2]] W fun e w' => e = .returned (.bool (decide (500 < s2.size))) ∧ Below w.heap.size w w' ∧ Below W.heap.size W w'

theorem two_any {k1 n1 k2 n2 : Int} (s1 s2 : ByteArray) (hs1 : s1.size ≤ 9223372036854775807) (hs2 : s2.size ≤ 9223372036854775807) (w : World) (hL : LaidIn w) : Two w k1 n1 s1 k2 n2 s2 where
  alive W hW := (alive_any W (hL.below hW)).mono fun _ _ ⟨he, hb⟩ => ⟨he, hW.trans (hb.mono hW.size), hb⟩
  long1 W hW := (long_any k1 n1 s1 W hs1).mono fun _ _ ⟨he, hb⟩ => ⟨he, hW.trans (hb.mono hW.size), hb⟩
  long2 W hW := (long_any k2 n2 s2 W hs2).mono fun _ _ ⟨he, hb⟩ => ⟨he, hW.trans (hb.mono hW.size), hb⟩

end Go.Proofs.YtgahljgmgdjjdaaGreatDoor
