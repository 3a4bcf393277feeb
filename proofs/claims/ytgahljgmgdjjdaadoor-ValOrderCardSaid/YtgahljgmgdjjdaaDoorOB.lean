/- The law ValOrder answers true where a text is long. Conditions: the listed variables of the library read as they are laid. -/
import Derived.Test.YtgahljgmgdjjdaaDoorOA
namespace Go.Proofs.YtgahljgmgdjjdaaDoor
open Go.RowKit

set_option maxHeartbeats 1000000 in
theorem order_long1 {k1 n1 k2 n2 k3 n3 : Int} (s1 s2 s3 : ByteArray) (w : World) (h2 : Three w k1 n1 s1 k2 n2 s2 k3 n3 s3) (hl : decide (500 < s1.size) = true) :
    Calls Tryd.prog 4 #[.agg #[.int .i64 k1, .int .i64 n1, .string s1], .agg #[.int .i64 k2, .int .i64 n2, .string s2], .agg #[.int .i64 k3, .int .i64 n3, .string s3]] w fun e w' => e = .returned (.bool true) ∧ Below w.heap.size w w' := by
  have HA := hid h2.alive
  have HL1 := hid h2.long1
  rw [hl] at HL1
  have HB := hid (below3 w)
  clear h2 hl
  go_enter Tryd.func4, Tryd.ntmps4
  go_wp2_with (first
    | (go_at_call 12; refine (HA.out _ (HB.out _ _ _)).mono ?_; rintro e w1 ⟨rfl, hbw1, hb1⟩
       obtain ⟨_, a0, a1, a2⟩ := ((((Agg3.new w k1 n1 s1 23).alloc _).alloc _).below hb1))
    | (go_at_call 13; refine (HL1.out _ hbw1).mono ?_; rintro e w2 ⟨rfl, hbw2, hb2⟩))
  go_ret
  exact ⟨rfl, hbw2⟩

set_option maxHeartbeats 1000000 in
theorem order_long2 {k1 n1 k2 n2 k3 n3 : Int} (s1 s2 s3 : ByteArray) (w : World) (h2 : Three w k1 n1 s1 k2 n2 s2 k3 n3 s3) (hl1 : decide (500 < s1.size) = false) (hl2 : decide (500 < s2.size) = true) :
    Calls Tryd.prog 4 #[.agg #[.int .i64 k1, .int .i64 n1, .string s1], .agg #[.int .i64 k2, .int .i64 n2, .string s2], .agg #[.int .i64 k3, .int .i64 n3, .string s3]] w fun e w' => e = .returned (.bool true) ∧ Below w.heap.size w w' := by
  have HA := hid h2.alive
  have HL1 := hid h2.long1
  have HL2 := hid h2.long2
  rw [hl1] at HL1
  rw [hl2] at HL2
  have HB := hid (below3 w)
  clear h2 hl1 hl2
  go_enter Tryd.func4, Tryd.ntmps4
  go_wp2_with (first
    | (go_at_call 12; refine (HA.out _ (HB.out _ _ _)).mono ?_; rintro e w1 ⟨rfl, hbw1, hb1⟩
       have HA1 := hid ((((Agg3.new w k1 n1 s1 23).alloc _).alloc _).below hb1)
       have HB1 := hid (((Agg3.new' (w.alloc _) (w.heap.size + 1) (by simp) k2 n2 s2 23).alloc _).below hb1)
       obtain ⟨_, a0, a1, a2⟩ := HA1.out)
    | (go_at_call 13; ((with_reducible refine (HL1.out _ hbw1).mono ?_); rintro e w2 ⟨rfl, hbw2, hb2⟩; obtain ⟨_, b0, b1, b2⟩ := HB1.out.below hb2))
    | (go_at_call 13; ((with_reducible refine (HL2.out _ hbw2).mono ?_); rintro e w3 ⟨rfl, hbw3, hb3⟩)))
  go_ret
  exact ⟨rfl, hbw3⟩

set_option maxHeartbeats 1000000 in
theorem order_long3 {k1 n1 k2 n2 k3 n3 : Int} (s1 s2 s3 : ByteArray) (w : World) (h2 : Three w k1 n1 s1 k2 n2 s2 k3 n3 s3) (hl1 : decide (500 < s1.size) = false) (hl2 : decide (500 < s2.size) = false) (hl3 : decide (500 < s3.size) = true) :
    Calls Tryd.prog 4 #[.agg #[.int .i64 k1, .int .i64 n1, .string s1], .agg #[.int .i64 k2, .int .i64 n2, .string s2], .agg #[.int .i64 k3, .int .i64 n3, .string s3]] w fun e w' => e = .returned (.bool true) ∧ Below w.heap.size w w' := by
  have HA := hid h2.alive
  have HL1 := hid h2.long1
  have HL2 := hid h2.long2
  have HL3 := hid h2.long3
  rw [hl1] at HL1
  rw [hl2] at HL2
  rw [hl3] at HL3
  have HB := hid (below3 w)
  clear h2 hl1 hl2 hl3
  go_enter Tryd.func4, Tryd.ntmps4
  go_wp2_with (first
    | (go_at_call 12; refine (HA.out _ (HB.out _ _ _)).mono ?_; rintro e w1 ⟨rfl, hbw1, hb1⟩
       have HA1 := hid ((((Agg3.new w k1 n1 s1 23).alloc _).alloc _).below hb1)
       have HB1 := hid (((Agg3.new' (w.alloc _) (w.heap.size + 1) (by simp) k2 n2 s2 23).alloc _).below hb1)
       have HC1 := hid ((Agg3.new' ((w.alloc _).alloc _) (w.heap.size + 2) (by simp) k3 n3 s3 23).below hb1)
       obtain ⟨_, a0, a1, a2⟩ := HA1.out)
    | (go_at_call 13; ((with_reducible refine (HL1.out _ hbw1).mono ?_); rintro e w2 ⟨rfl, hbw2, hb2⟩; have HC2 := hid (HC1.out.below hb2); obtain ⟨_, b0, b1, b2⟩ := HB1.out.below hb2))
    | (go_at_call 13; ((with_reducible refine (HL2.out _ hbw2).mono ?_); rintro e w3 ⟨rfl, hbw3, hb3⟩; obtain ⟨_, c0, c1, c2⟩ := HC2.out.below hb3))
    | (go_at_call 13; ((with_reducible refine (HL3.out _ hbw3).mono ?_); rintro e w4 ⟨rfl, hbw4, hb4⟩)))
  go_ret
  exact ⟨rfl, hbw4⟩

end Go.Proofs.YtgahljgmgdjjdaaDoor
