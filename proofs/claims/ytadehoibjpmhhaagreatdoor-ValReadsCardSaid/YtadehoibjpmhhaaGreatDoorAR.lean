/- The law ValReads answers true for every row and every text. Conditions: the listed variables of the library read as they are laid; the slice holds its bytes. -/
import Derived.Test.YtadehoibjpmhhaaGreatDoorRU
import Derived.Test.YtadehoibjpmhhaaGreatDoorRP
import Derived.Test.YtadehoibjpmhhaaGreatDoorVO
namespace Go.Proofs.YtadehoibjpmhhaaGreatDoor
open Go.RowKit

/-- What the law asks of the programs when the row and the text are not long. -/
structure ReadsQ (w : World) (V : Value) (s : ByteArray) (k1 n1 : Int) (S1 : ByteArray) (o1 : Bool) (k2 n2 : Int) (S2 : ByteArray) (o2 : Bool) : Prop where
  dec : ∀ W, Below w.heap.size w W → Calls Tryz.prog 5 #[V] W fun e w' => e = .returned (.tuple #[.agg #[.int .i64 k1, .int .i64 n1, .string S1], .bool o1]) ∧ Below W.heap.size W w'
  rdec : ∀ W, Below w.heap.size w W → Calls Tryz.prog 6 #[V] W fun e w' => e = .returned (.tuple #[.agg #[.int .i64 k1, .int .i64 n1, .string S1], .bool o1]) ∧ Below W.heap.size W w'
  read : ∀ W, Below w.heap.size w W → Calls Tryz.prog 7 #[.string s] W fun e w' => e = .returned (.tuple #[.agg #[.int .i64 k2, .int .i64 n2, .string S2], .bool o2]) ∧ Below W.heap.size W w'
  rread : ∀ W, Below w.heap.size w W → Calls Tryz.prog 8 #[.string s] W fun e w' => e = .returned (.tuple #[.agg #[.int .i64 k2, .int .i64 n2, .string S2], .bool o2]) ∧ Below W.heap.size W w'

def AliveQ (w : World) : Prop := ∀ W, Below w.heap.size w W → Calls Tryz.prog 4 #[] W fun e w' => e = .returned (.bool true) ∧ Below W.heap.size W w'

set_option maxHeartbeats 4000000 in
theorem vreads_long (A : Option Addr) (len cap : Nat) (s : ByteArray) (w : World) (ha : AliveQ w) (hx : 300 < len ∨ (len ≤ 300 ∧ 300 < s.size)) :
    Calls Tryz.prog 3 #[.slice A len cap, .string s] w fun e w' => e = .returned (.bool true) ∧ Below w.heap.size w w' := by
  have HA := hid ha
  clear ha
  rcases hx with h1 | ⟨h1, h2⟩
  · have g1 : decide ((300 : Int) < (len : Int)) = true := decide_eq_true (by omega)
    have g2 : decide (300 < len) = true := decide_eq_true h1
    go_enter Tryz.func3, Tryz.ntmps3
    go_wp2_with (go_at_call 4; refine (HA.out _ (Below.refl _ _)).mono ?_; rintro e w1 ⟨rfl, hb1⟩)
    go_ret
    exact ⟨rfl, hb1⟩
  · have g1 : decide ((300 : Int) < (len : Int)) = false := decide_eq_false (by omega)
    have g2 : decide (300 < len) = false := decide_eq_false (by omega)
    have g3 : decide ((300 : Int) < (s.size : Int)) = true := decide_eq_true (by omega)
    have g4 : decide (300 < s.size) = true := decide_eq_true h2
    go_enter Tryz.func3, Tryz.ntmps3
    go_wp2_with (go_at_call 4; refine (HA.out _ (Below.refl _ _)).mono ?_; rintro e w1 ⟨rfl, hb1⟩)
    go_ret
    exact ⟨rfl, hb1⟩

set_option maxHeartbeats 8000000 in
theorem vreads_main (A : Option Addr) (len cap : Nat) (s : ByteArray) (w : World) (ha : AliveQ w) (h1 : len ≤ 300) (h2 : s.size ≤ 300) (k1 n1 : Int) (S1 : ByteArray) (o1 : Bool) (k2 n2 : Int) (S2 : ByteArray) (o2 : Bool) (hq : ReadsQ w (.slice A len cap) s k1 n1 S1 o1 k2 n2 S2 o2) :
    Calls Tryz.prog 3 #[.slice A len cap, .string s] w fun e w' => e = .returned (.bool true) ∧ Below w.heap.size w w' := by
  have HA := hid ha
  have H1 := hid hq.dec
  have H2 := hid hq.rdec
  have H3 := hid hq.read
  have H4 := hid hq.rread
  have g1 : decide ((300 : Int) < (len : Int)) = false := decide_eq_false (by omega)
  have g2 : decide (300 < len) = false := decide_eq_false (by omega)
  have g3 : decide ((300 : Int) < (s.size : Int)) = false := decide_eq_false (by omega)
  have g4 : decide (300 < s.size) = false := decide_eq_false (by omega)
  clear ha hq
  go_enter Tryz.func3, Tryz.ntmps3
  go_wp2_with (first
    | (go_at_call 4; refine (HA.out _ (Below.refl _ _)).mono ?_; rintro e w1 ⟨rfl, hb1⟩)
    | (go_at_call 5; refine (H1.out _ hb1).mono ?_; rintro e w2 ⟨rfl, hb2⟩
       have hbw2 := hb1.trans (hb2.mono hb1.size)
       have hbx2 := hbw2.alloc hbw2.size (.cells #[.int .i64 k1, .int .i64 n1, .string S1] 25))
    | (go_at_call 6; refine (H2.out _ hbx2).mono ?_; rintro e w3 ⟨rfl, hb3⟩
       have HA3 := hid ((Agg3.new w2 k1 n1 S1 25).below hb3)
       have hbw3 := hbx2.trans (hb3.mono hbx2.size)
       have hbx3 := hbw3.alloc hbw3.size (.cells #[.int .i64 k1, .int .i64 n1, .string S1] 25))
    | (go_at_call 7; refine (H3.out _ hbx3).mono ?_; rintro e w4 ⟨rfl, hb4⟩
       have HA4 := hid ((HA3.out.alloc _).below hb4)
       have HB4 := hid ((Agg3.new w3 k1 n1 S1 25).below hb4)
       have hbw4 := hbx3.trans (hb4.mono hbx3.size)
       have hbx4 := hbw4.alloc hbw4.size (.cells #[.int .i64 k2, .int .i64 n2, .string S2] 25))
    | (go_at_call 8; refine (H4.out _ hbx4).mono ?_; rintro e w5 ⟨rfl, hb5⟩
       have hbw5 := hbx4.trans (hb5.mono hbx4.size)
       obtain ⟨_, a0, a1, a2⟩ := ((HA4.out.alloc _).below hb5).alloc (.cells #[.int .i64 k2, .int .i64 n2, .string S2] 25)
       obtain ⟨_, b0, b1, b2⟩ := ((HB4.out.alloc _).below hb5).alloc (.cells #[.int .i64 k2, .int .i64 n2, .string S2] 25)
       obtain ⟨_, c0, c1, c2⟩ := ((Agg3.new w4 k2 n2 S2 25).below hb5).alloc (.cells #[.int .i64 k2, .int .i64 n2, .string S2] 25)
       obtain ⟨_, d0, d1, d2⟩ := Agg3.new w5 k2 n2 S2 25))
  go_ret
  exact ⟨rfl, hbw5.alloc hbw5.size _⟩

end Go.Proofs.YtadehoibjpmhhaaGreatDoor
