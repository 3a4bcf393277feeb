/- The law ValBytes answers true where a text is long, or a value isn't right. Conditions: the listed variables of the library read as they are laid; the numbers are of 64 bits. -/
import Derived.Test.YtgahljgmgdjjdaaDoorWE
namespace Go.Proofs.YtgahljgmgdjjdaaDoor
open Go.RowKit

/-- What the law asks of two values ahead of their bytes. -/
structure TwoR (w : World) (k1 n1 : Int) (s1 : ByteArray) (k2 n2 : Int) (s2 : ByteArray) (l1 l2 r1 r2 : Bool) : Prop where
  alive : ∀ W, Below w.heap.size w W → Calls Tryd.prog 12 #[] W fun e w' => e = .returned (.bool true) ∧ Below w.heap.size w w' ∧ Below W.heap.size W w'
  long1 : ∀ W, Below w.heap.size w W → Calls Tryd.prog 13 #[.agg #[.int .i64 k1, .int .i64 n1, .string s1]] W fun e w' => e = .returned (.bool l1) ∧ Below w.heap.size w w' ∧ Below W.heap.size W w'
  long2 : ∀ W, Below w.heap.size w W → Calls Tryd.prog 13 #[.agg #[.int .i64 k2, .int .i64 n2, .string s2]] W fun e w' => e = .returned (.bool l2) ∧ Below w.heap.size w w' ∧ Below W.heap.size W w'
  right1 : ∀ W, Below w.heap.size w W → Calls Tryd.prog 14 #[.agg #[.int .i64 k1, .int .i64 n1, .string s1]] W fun e w' => e = .returned (.bool r1) ∧ Below w.heap.size w w' ∧ Below W.heap.size W w'
  right2 : ∀ W, Below w.heap.size w W → Calls Tryd.prog 14 #[.agg #[.int .i64 k2, .int .i64 n2, .string s2]] W fun e w' => e = .returned (.bool r2) ∧ Below w.heap.size w w' ∧ Below W.heap.size W w'

theorem twoR_any {k1 n1 k2 n2 : Int} (hn1 : inI n1) (hn2 : inI n2) (s1 s2 : ByteArray) (hs1 : s1.size ≤ 9223372036854775807) (hs2 : s2.size ≤ 9223372036854775807) (w : World) (hL : LaidIn w) : TwoR w k1 n1 s1 k2 n2 s2 (decide (500 < s1.size)) (decide (500 < s2.size)) (vRight k1 n1 s1.data.toList) (vRight k2 n2 s2.data.toList) where
  alive W hW := (alive_any W (hL.below hW)).mono fun _ _ ⟨he, hb⟩ => ⟨he, hW.trans (hb.mono hW.size), hb⟩
  long1 W hW := (long_any k1 n1 s1 W hs1).mono fun _ _ ⟨he, hb⟩ => ⟨he, hW.trans (hb.mono hW.size), hb⟩
  long2 W hW := (long_any k2 n2 s2 W hs2).mono fun _ _ ⟨he, hb⟩ => ⟨he, hW.trans (hb.mono hW.size), hb⟩
  right1 W hW := vright_in k1 hn1 s1 w hs1 hL W hW
  right2 W hW := vright_in k2 hn2 s2 w hs2 hL W hW

set_option maxHeartbeats 4000000 in
theorem bytes_early {k1 n1 k2 n2 : Int} (s1 s2 : ByteArray) (w : World) (l1 l2 r1 r2 : Bool) (h2 : TwoR w k1 n1 s1 k2 n2 s2 l1 l2 r1 r2)
    (hx : l1 = true ∨ (l1 = false ∧ l2 = true) ∨ (l1 = false ∧ l2 = false ∧ r1 = false) ∨ (l1 = false ∧ l2 = false ∧ r1 = true ∧ r2 = false)) :
    Calls Tryd.prog 3 #[.agg #[.int .i64 k1, .int .i64 n1, .string s1], .agg #[.int .i64 k2, .int .i64 n2, .string s2]] w fun e w' => e = .returned (.bool true) ∧ Below w.heap.size w w' := by
  have HA := hid h2.alive
  have HL1 := hid h2.long1
  have HL2 := hid h2.long2
  have HR1 := hid h2.right1
  have HR2 := hid h2.right2
  have HB := hid (below2 w)
  clear h2
  rcases hx with rfl | ⟨rfl, rfl⟩ | ⟨rfl, rfl, rfl⟩ | ⟨rfl, rfl, rfl, rfl⟩
  all_goals
    go_enter Tryd.func3, Tryd.ntmps3
    go_wp2_with (first
      | (go_at_call 12; refine (HA.out _ (HB.out _ _)).mono ?_; rintro e w1 ⟨rfl, hbw1, hb1⟩
         have HA1 := hid (((Agg3.new w k1 n1 s1 23).alloc _).below hb1)
         have HB1 := hid ((Agg3.new' (w.alloc _) (w.heap.size + 1) (by simp) k2 n2 s2 23).below hb1)
         obtain ⟨_, a0, a1, a2⟩ := HA1.out)
      | (go_at_call 13; ((with_reducible refine (HL1.out _ hbw1).mono ?_); rintro e w2 ⟨rfl, hbw2, hb2⟩; have HA2 := hid (HA1.out.below hb2); have HB2 := hid (HB1.out.below hb2); obtain ⟨_, b0, b1, b2⟩ := HB2.out))
      | (go_at_call 13; ((with_reducible refine (HL2.out _ hbw2).mono ?_); rintro e w3 ⟨rfl, hbw3, hb3⟩; have HA3 := hid (HA2.out.below hb3); have HB3 := hid (HB2.out.below hb3); obtain ⟨_, c0, c1, c2⟩ := HA3.out))
      | (go_at_call 14; ((with_reducible refine (HR1.out _ hbw3).mono ?_); rintro e w4 ⟨rfl, hbw4, hb4⟩; have HB4 := hid (HB3.out.below hb4); obtain ⟨_, d0, d1, d2⟩ := HB4.out))
      | (go_at_call 14; ((with_reducible refine (HR2.out _ hbw4).mono ?_); rintro e w5 ⟨rfl, hbw5, hb5⟩)))
    go_ret
    exact ⟨rfl, by assumption⟩

end Go.Proofs.YtgahljgmgdjjdaaDoor
