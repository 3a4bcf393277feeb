/- long (of the laws of layer 2), and the law ValKinds answers true for every two values. Conditions: the listed variables of the library read as they are laid; the numbers are of 64 bits. -/
import Derived.Test.YtcojapbfkjfmbaaDoorVO
namespace Go.Proofs.YtcojapbfkjfmbaaDoor
open Go.RowKit

theorem Agg3.new' (w : World) (g : Nat) (hg : g = w.heap.size) (k n : Int) (S : ByteArray) (T : TypeId) : Agg3 (w.alloc (.cells #[.int .i64 k, .int .i64 n, .string S] T)) g k n S := by
  subst hg
  exact Agg3.new w k n S T

theorem long_any (k n : Int) (s : ByteArray) (w : World) (hs : s.size ≤ 9223372036854775807) :
    Calls Tryd.prog 7 #[.agg #[.int .i64 k, .int .i64 n, .string s]] w fun e w' => e = .returned (.bool (decide (500 < s.size))) ∧ Below w.heap.size w w' := by
  go_enter Tryd.func7, Tryd.ntmps7
  go_wp2
  go_ret
  exact ⟨ret_bool (show decide ((500 : Int) < (s.size : Int)) = _ by simp; omega), below_new _ _⟩

theorem enc_two {k n : Int} {s : List UInt8} (h : vRight k n s = true) : 2 ≤ (vEnc k n s).length := by
  unfold vEnc vBody
  rcases right_kind h with rfl | rfl | rfl | rfl | rfl <;> simp [byW_len]

/-- Two values that the law has boxed, and what it may call. -/
structure Two (w : World) (k1 n1 : Int) (s1 : ByteArray) (k2 n2 : Int) (s2 : ByteArray) : Prop where
  alive : ∀ W, Below w.heap.size w W → Calls Tryd.prog 6 #[] W fun e w' => e = .returned (.bool true) ∧ Below w.heap.size w w' ∧ Below W.heap.size W w'
  long1 : ∀ W, Below w.heap.size w W → Calls Tryd.prog 7 #[.agg #[.int .i64 k1, .int .i64 n1, .string s1]] W fun e w' => e = .returned (.bool (decide (500 < s1.size))) ∧ Below w.heap.size w w' ∧ Below W.heap.size W w'
  long2 : ∀ W, Below w.heap.size w W → Calls Tryd.prog 7 #[.agg #[.int .i64 k2, .int .i64 n2, .string s2]] W fun e w' => e = .returned (.bool (decide (500 < s2.size))) ∧ Below w.heap.size w w' ∧ Below W.heap.size W w'

theorem two_any {k1 n1 k2 n2 : Int} (s1 s2 : ByteArray) (hs1 : s1.size ≤ 9223372036854775807) (hs2 : s2.size ≤ 9223372036854775807) (w : World) (hL : LaidIn w) : Two w k1 n1 s1 k2 n2 s2 where
  alive W hW := (alive_any W (hL.below hW)).mono fun _ _ ⟨he, hb⟩ => ⟨he, hW.trans (hb.mono hW.size), hb⟩
  long1 W hW := (long_any k1 n1 s1 W hs1).mono fun _ _ ⟨he, hb⟩ => ⟨he, hW.trans (hb.mono hW.size), hb⟩
  long2 W hW := (long_any k2 n2 s2 W hs2).mono fun _ _ ⟨he, hb⟩ => ⟨he, hW.trans (hb.mono hW.size), hb⟩

set_option maxHeartbeats 1000000 in
theorem kinds_long1 {k1 n1 k2 n2 : Int} (s1 s2 : ByteArray) (w : World) (h2 : Two w k1 n1 s1 k2 n2 s2) (hl : decide (500 < s1.size) = true) :
    Calls Tryd.prog 5 #[.agg #[.int .i64 k1, .int .i64 n1, .string s1], .agg #[.int .i64 k2, .int .i64 n2, .string s2]] w fun e w' => e = .returned (.bool true) ∧ Below w.heap.size w w' := by
  have HA := hid h2.alive
  have HL1 := hid h2.long1
  rw [hl] at HL1
  have HB := hid (below2 w)
  clear h2 hl
  go_enter Tryd.func5, Tryd.ntmps5
  go_wp2_with (first
    | (go_at_call 6; refine (HA.out _ (HB.out _ _)).mono ?_; rintro e w1 ⟨rfl, hbw1, hb1⟩
       obtain ⟨_, a0, a1, a2⟩ := ((Agg3.new w k1 n1 s1 23).alloc _).below hb1)
    | (go_at_call 7; refine (HL1.out _ hbw1).mono ?_; rintro e w2 ⟨rfl, hbw2, hb2⟩))
  go_ret
  exact ⟨rfl, hbw2⟩

set_option maxHeartbeats 1000000 in
theorem kinds_long2 {k1 n1 k2 n2 : Int} (s1 s2 : ByteArray) (w : World) (h2 : Two w k1 n1 s1 k2 n2 s2) (hl1 : decide (500 < s1.size) = false) (hl2 : decide (500 < s2.size) = true) :
    Calls Tryd.prog 5 #[.agg #[.int .i64 k1, .int .i64 n1, .string s1], .agg #[.int .i64 k2, .int .i64 n2, .string s2]] w fun e w' => e = .returned (.bool true) ∧ Below w.heap.size w w' := by
  have HA := hid h2.alive
  have HL1 := hid h2.long1
  have HL2 := hid h2.long2
  rw [hl1] at HL1
  rw [hl2] at HL2
  have HB := hid (below2 w)
  clear h2 hl1 hl2
  go_enter Tryd.func5, Tryd.ntmps5
  go_wp2_with (first
    | (go_at_call 6; refine (HA.out _ (HB.out _ _)).mono ?_; rintro e w1 ⟨rfl, hbw1, hb1⟩
       have HA1 := hid (((Agg3.new w k1 n1 s1 23).alloc _).below hb1)
       have HB1 := hid ((Agg3.new' (w.alloc _) (w.heap.size + 1) (by simp) k2 n2 s2 23).below hb1)
       obtain ⟨_, a0, a1, a2⟩ := HA1.out)
    | (go_at_call 7; ((with_reducible refine (HL1.out _ hbw1).mono ?_); rintro e w2 ⟨rfl, hbw2, hb2⟩; obtain ⟨_, b0, b1, b2⟩ := HB1.out.below hb2))
    | (go_at_call 7; ((with_reducible refine (HL2.out _ hbw2).mono ?_); rintro e w3 ⟨rfl, hbw3, hb3⟩)))
  go_ret
  exact ⟨rfl, hbw3⟩

end Go.Proofs.YtcojapbfkjfmbaaDoor
