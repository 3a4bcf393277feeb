/- The law ValKinds answers true where both texts are short. Conditions: the listed variables of the library read as they are laid; the numbers are of 64 bits. -/
import Derived.Test.YtcojapbfkjfmbaaDoorWA
namespace Go.Proofs.YtcojapbfkjfmbaaDoor
open Go.RowKit

theorem enc_right (k : Int) {n : Int} (hn : inI n) (s : ByteArray) (hs : s.size ≤ 9223372036854775807) (hr : vRight k n s.data.toList = true) (w : World) (hL : LaidIn w) (W : World) (hW : Below w.heap.size w W) :
    Calls Tryd.prog 9 #[.agg #[.int .i64 k, .int .i64 n, .string s]] W fun e w' => ∃ g c N, e = .returned (.tuple #[.slice (some ⟨g, 0, none⟩) N c, .bool true]) ∧ 2 ≤ N ∧ N ≤ 1000000 ∧ N ≤ c ∧ g < w'.heap.size ∧ w'.cell? ⟨g, 0, none⟩ = some (.int .u8 k) ∧ Below w.heap.size w w' ∧ Below W.heap.size W w' :=
  (vencode_yes k hn s hs hr W (hL.below hW)).mono fun e w' ⟨v, he, hR, hb⟩ => by
    have h2 := enc_two hr
    obtain ⟨g, c, rfl, h3, h4, h5, h6⟩ := hR.form (by omega)
    have hl : (vEnc k n s.data.toList).length ≤ 1000000 := by
      have h1 := right_len hr
      have h7 := esc_len s.data.toList
      unfold vEnc vBody
      rcases right_kind hr with rfl | rfl | rfl | rfl | rfl <;> simp [byW_len] <;> omega
    have hk : (((vEnc k n s.data.toList).getD 0 0).toNat : Int) = k := by
      rcases right_kind hr with rfl | rfl | rfl | rfl | rfl <;> rfl
    have hc := h6 0 (by omega)
    rw [hk] at hc
    exact ⟨g, c, _, he, h2, hl, h5, h4, hc, hW.trans (hb.mono hW.size), hb⟩

set_option maxHeartbeats 1000000 in
theorem kinds_eq_no {k1 n1 k2 n2 : Int} (s1 s2 : ByteArray) (w : World) (h2 : Two w k1 n1 s1 k2 n2 s2) (hl1 : decide (500 < s1.size) = false) (hl2 : decide (500 < s2.size) = false) (hk : (k1 == k2) = true)
    (hE : ∀ W, Below w.heap.size w W → Calls Tryd.prog 9 #[.agg #[.int .i64 k1, .int .i64 n1, .string s1]] W fun e w' => e = .returned (.tuple #[.slice none 0 0, .bool false]) ∧ Below w.heap.size w w' ∧ Below W.heap.size W w') :
    Calls Tryd.prog 5 #[.agg #[.int .i64 k1, .int .i64 n1, .string s1], .agg #[.int .i64 k2, .int .i64 n2, .string s2]] w fun e w' => e = .returned (.bool true) ∧ Below w.heap.size w w' := by
  have HA := hid h2.alive
  have HL1 := hid h2.long1
  have HL2 := hid h2.long2
  have HE := hid hE
  rw [hl1] at HL1
  rw [hl2] at HL2
  have HB := hid (below2 w)
  clear h2 hl1 hl2 hE
  go_enter Tryd.func5, Tryd.ntmps5
  go_wp2_with (first
    | (go_at_call 6; refine (HA.out _ (HB.out _ _)).mono ?_; rintro e w1 ⟨rfl, hbw1, hb1⟩
       have HA1 := hid (((Agg3.new w k1 n1 s1 23).alloc _).below hb1)
       have HB1 := hid ((Agg3.new' (w.alloc _) (w.heap.size + 1) (by simp) k2 n2 s2 23).below hb1)
       obtain ⟨_, a0, a1, a2⟩ := HA1.out)
    | (go_at_call 7; ((with_reducible refine (HL1.out _ hbw1).mono ?_); rintro e w2 ⟨rfl, hbw2, hb2⟩; have HA2 := hid (HA1.out.below hb2); have HB2 := hid (HB1.out.below hb2); obtain ⟨_, b0, b1, b2⟩ := HB2.out))
    | (go_at_call 7; ((with_reducible refine (HL2.out _ hbw2).mono ?_); rintro e w3 ⟨rfl, hbw3, hb3⟩; have HA3 := hid (HA2.out.below hb3); have HB3 := hid (HB2.out.below hb3); obtain ⟨_, c0, c1, c2⟩ := HA3.out))
    | (go_at_call 9; refine (HE.out _ hbw3).mono ?_; rintro e w4 ⟨rfl, hbw4, hb4⟩
       have HA4 := hid (HA3.out.below hb4)
       have HB4 := hid (HB3.out.below hb4)
       obtain ⟨_, d0, d1, d2⟩ := HA4.out
       obtain ⟨_, e0, e1, e2⟩ := HB4.out))
  go_quiet (fail)
  go_wp2
  go_ret
  exact ⟨rfl, below_drewN hbw4 _⟩

end Go.Proofs.YtcojapbfkjfmbaaDoor
