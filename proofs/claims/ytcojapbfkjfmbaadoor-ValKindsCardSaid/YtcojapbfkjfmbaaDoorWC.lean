/- The law ValKinds answers true for every two values. Conditions: the listed variables of the library read as they are laid; the numbers are of 64 bits. -/
import Derived.Test.YtcojapbfkjfmbaaDoorWB
namespace Go.Proofs.YtcojapbfkjfmbaaDoor
open Go.RowKit

set_option maxHeartbeats 1000000 in
theorem kinds_eq_yes {k1 n1 k2 n2 : Int} (s1 s2 : ByteArray) (w : World) (h2 : Two w k1 n1 s1 k2 n2 s2) (hl1 : decide (500 < s1.size) = false) (hl2 : decide (500 < s2.size) = false) (hk : (k1 == k2) = true)
    (hkb : 1 ≤ k1 ∧ k1 ≤ 5) (hE : ∀ W, Below w.heap.size w W → Calls Tryd.prog 9 #[.agg #[.int .i64 k1, .int .i64 n1, .string s1]] W fun e w' => ∃ g c N, e = .returned (.tuple #[.slice (some ⟨g, 0, none⟩) N c, .bool true]) ∧ 2 ≤ N ∧ N ≤ 1000000 ∧ N ≤ c ∧ g < w'.heap.size ∧ w'.cell? ⟨g, 0, none⟩ = some (.int .u8 k1) ∧ Below w.heap.size w w' ∧ Below W.heap.size W w') :
    Calls Tryd.prog 5 #[.agg #[.int .i64 k1, .int .i64 n1, .string s1], .agg #[.int .i64 k2, .int .i64 n2, .string s2]] w fun e w' => e = .returned (.bool true) ∧ Below w.heap.size w w' := by
  have HA := hid h2.alive
  have HL1 := hid h2.long1
  have HL2 := hid h2.long2
  have HE := hid hE
  rw [hl1] at HL1
  rw [hl2] at HL2
  have HB := hid (below2 w)
  have hwrap : IntKind.i64.wrap k1 = k1 := IntWalk.i64_in _ (by omega)
  clear h2 hl1 hl2 hE
  go_enter Tryd.func5, Tryd.ntmps5
  go_wp2_with (first
    | (go_at_call 6; refine (HA.out _ (HB.out _ _)).mono ?_; rintro e w1 ⟨rfl, hbw1, hb1⟩
       have HA1 := hid (((Agg3.new w k1 n1 s1 23).alloc _).below hb1)
       have HB1 := hid ((Agg3.new' (w.alloc _) (w.heap.size + 1) (by simp) k2 n2 s2 23).below hb1)
       obtain ⟨_, a0, a1, a2⟩ := HA1.out)
    | (go_at_call 7; ((with_reducible refine (HL1.out _ hbw1).mono ?_); rintro e w2 ⟨rfl, hbw2, hb2⟩; have HA2 := hid (HA1.out.below hb2); have HB2 := hid (HB1.out.below hb2); obtain ⟨_, b0, b1, b2⟩ := HB2.out))
    | (go_at_call 7; ((with_reducible refine (HL2.out _ hbw2).mono ?_); rintro e w3 ⟨rfl, hbw3, hb3⟩; have HA3 := hid (HA2.out.below hb3); have HB3 := hid (HB2.out.below hb3); obtain ⟨_, c0, c1, c2⟩ := HA3.out))
    | (go_at_call 9; refine (HE.out _ hbw3).mono ?_; rintro e w4 ⟨g, c, N, rfl, hN2, hN, hNc, hg, hgc, hbw4, hb4⟩
       have hd2 : decide ((N : Int) < 2) = false := decide_eq_false (by omega)
       have hN0 : (0 : Int) < (N : Int) := by omega
       have HA4 := hid (HA3.out.below hb4)
       have HB4 := hid (HB3.out.below hb4)
       obtain ⟨_, d0, d1, d2⟩ := HA4.out
       obtain ⟨_, e0, e1, e2⟩ := HB4.out))
  go_quiet (fail)
  go_wp2
  go_ret
  exact ⟨rfl, below_drewN hbw4 _⟩

set_option maxHeartbeats 1000000 in
theorem kinds_ne_no {k1 n1 k2 n2 : Int} (s1 s2 : ByteArray) (w : World) (h2 : Two w k1 n1 s1 k2 n2 s2) (hl1 : decide (500 < s1.size) = false) (hl2 : decide (500 < s2.size) = false) (hk : (k1 == k2) = false) (o : Int) (lt : Bool) (ho : (lt = true ∧ o = -1) ∨ (lt = false ∧ o = 1)) (hlt : decide (k1 < k2) = lt) (hO : ∀ W, Below w.heap.size w W → Calls Tryd.prog 10 #[.agg #[.int .i64 k1, .int .i64 n1, .string s1], .agg #[.int .i64 k2, .int .i64 n2, .string s2]] W fun e w' => e = .returned (.int .i64 o) ∧ Below w.heap.size w w' ∧ Below W.heap.size W w')
    (hE : ∀ W, Below w.heap.size w W → Calls Tryd.prog 9 #[.agg #[.int .i64 k1, .int .i64 n1, .string s1]] W fun e w' => e = .returned (.tuple #[.slice none 0 0, .bool false]) ∧ Below w.heap.size w w' ∧ Below W.heap.size W w') :
    Calls Tryd.prog 5 #[.agg #[.int .i64 k1, .int .i64 n1, .string s1], .agg #[.int .i64 k2, .int .i64 n2, .string s2]] w fun e w' => e = .returned (.bool true) ∧ Below w.heap.size w w' := by
  have HA := hid h2.alive
  have HL1 := hid h2.long1
  have HL2 := hid h2.long2
  have HE := hid hE
  have HO := hid hO
  rw [hl1] at HL1
  rw [hl2] at HL2
  have HB := hid (below2 w)
  clear h2 hl1 hl2 hE hO
  go_enter Tryd.func5, Tryd.ntmps5
  go_wp2_with (first
    | (go_at_call 6; refine (HA.out _ (HB.out _ _)).mono ?_; rintro e w1 ⟨rfl, hbw1, hb1⟩
       have HA1 := hid (((Agg3.new w k1 n1 s1 23).alloc _).below hb1)
       have HB1 := hid ((Agg3.new' (w.alloc _) (w.heap.size + 1) (by simp) k2 n2 s2 23).below hb1)
       obtain ⟨_, a0, a1, a2⟩ := HA1.out)
    | (go_at_call 7; ((with_reducible refine (HL1.out _ hbw1).mono ?_); rintro e w2 ⟨rfl, hbw2, hb2⟩; have HA2 := hid (HA1.out.below hb2); have HB2 := hid (HB1.out.below hb2); obtain ⟨_, b0, b1, b2⟩ := HB2.out))
    | (go_at_call 7; ((with_reducible refine (HL2.out _ hbw2).mono ?_); rintro e w3 ⟨rfl, hbw3, hb3⟩; have HA3 := hid (HA2.out.below hb3); have HB3 := hid (HB2.out.below hb3); obtain ⟨_, c0, c1, c2⟩ := HA3.out))
    | (go_at_call 9; refine (HE.out _ hbw3).mono ?_; rintro e w4 ⟨rfl, hbw4, hb4⟩
       have HA4 := hid (HA3.out.below hb4)
       have HB4 := hid (HB3.out.below hb4)
       obtain ⟨_, d0, d1, d2⟩ := HA4.out
       obtain ⟨_, e0, e1, e2⟩ := HB4.out))
  have hz4 : w.heap.size + 1 < w4.heap.size := HB4.out.1
  go_quiet (fail)
  go_wp2
  clear hbw1 hb1 hbw2 hb2 hbw3 hb3 hb4 a0 a1 a2 b0 b1 b2 c0 c1 c2
  rcases ho with ⟨rfl, rfl⟩ | ⟨rfl, rfl⟩
  all_goals
    go_region_held3 (fun w' => w'.cell? ⟨w.heap.size, 0, none⟩ = some (.int .i64 k1) ∧ w'.cell? ⟨w.heap.size, 1, none⟩ = some (.int .i64 n1) ∧ w'.cell? ⟨w.heap.size, 2, none⟩ = some (.string s1) ∧ w'.cell? ⟨w.heap.size + 1, 0, none⟩ = some (.int .i64 k2) ∧ w'.cell? ⟨w.heap.size + 1, 1, none⟩ = some (.int .i64 n2) ∧ w'.cell? ⟨w.heap.size + 1, 2, none⟩ = some (.string s2))
      (first | go_keep | (go_split_ands; refine ⟨?_, ?_, ?_, ?_, ?_, ?_⟩ <;> (rw [hbo.cell (by simp; omega)]; first | assumption | go_keep)))
      ((go_at_call 10; ((with_reducible refine (HO.out _ ?_).mono ?_); (first | (with_reducible exact below_drewN hbw4 _) | (with_reducible exact (below_drewN hbw4 _).drew) | (with_reducible exact hbw5) | (with_reducible exact hbw5.drew) | (with_reducible exact below_drewN hbw5 _)); rintro e w5 ⟨rfl, hbw5, hbo⟩; have hz5 : w.heap.size + 1 < w5.heap.size := (by have := hbo.size; (try simp at this); omega))))
  all_goals go_wp2
  all_goals go_ret
  all_goals exact ⟨rfl, by first | exact hbw5 | exact below_drewN hbw5 _⟩

set_option maxHeartbeats 1000000 in
theorem kinds_ne_yes {k1 n1 k2 n2 : Int} (s1 s2 : ByteArray) (w : World) (h2 : Two w k1 n1 s1 k2 n2 s2) (hl1 : decide (500 < s1.size) = false) (hl2 : decide (500 < s2.size) = false) (hk : (k1 == k2) = false) (o : Int) (lt : Bool) (ho : (lt = true ∧ o = -1) ∨ (lt = false ∧ o = 1)) (hlt : decide (k1 < k2) = lt) (hO : ∀ W, Below w.heap.size w W → Calls Tryd.prog 10 #[.agg #[.int .i64 k1, .int .i64 n1, .string s1], .agg #[.int .i64 k2, .int .i64 n2, .string s2]] W fun e w' => e = .returned (.int .i64 o) ∧ Below w.heap.size w w' ∧ Below W.heap.size W w')
    (hkb : 1 ≤ k1 ∧ k1 ≤ 5) (hE : ∀ W, Below w.heap.size w W → Calls Tryd.prog 9 #[.agg #[.int .i64 k1, .int .i64 n1, .string s1]] W fun e w' => ∃ g c N, e = .returned (.tuple #[.slice (some ⟨g, 0, none⟩) N c, .bool true]) ∧ 2 ≤ N ∧ N ≤ 1000000 ∧ N ≤ c ∧ g < w'.heap.size ∧ w'.cell? ⟨g, 0, none⟩ = some (.int .u8 k1) ∧ Below w.heap.size w w' ∧ Below W.heap.size W w') :
    Calls Tryd.prog 5 #[.agg #[.int .i64 k1, .int .i64 n1, .string s1], .agg #[.int .i64 k2, .int .i64 n2, .string s2]] w fun e w' => e = .returned (.bool true) ∧ Below w.heap.size w w' := by
  have HA := hid h2.alive
  have HL1 := hid h2.long1
  have HL2 := hid h2.long2
  have HE := hid hE
  have HO := hid hO
  rw [hl1] at HL1
  rw [hl2] at HL2
  have HB := hid (below2 w)
  have hwrap : IntKind.i64.wrap k1 = k1 := IntWalk.i64_in _ (by omega)
  clear h2 hl1 hl2 hE hO
  go_enter Tryd.func5, Tryd.ntmps5
  go_wp2_with (first
    | (go_at_call 6; refine (HA.out _ (HB.out _ _)).mono ?_; rintro e w1 ⟨rfl, hbw1, hb1⟩
       have HA1 := hid (((Agg3.new w k1 n1 s1 23).alloc _).below hb1)
       have HB1 := hid ((Agg3.new' (w.alloc _) (w.heap.size + 1) (by simp) k2 n2 s2 23).below hb1)
       obtain ⟨_, a0, a1, a2⟩ := HA1.out)
    | (go_at_call 7; ((with_reducible refine (HL1.out _ hbw1).mono ?_); rintro e w2 ⟨rfl, hbw2, hb2⟩; have HA2 := hid (HA1.out.below hb2); have HB2 := hid (HB1.out.below hb2); obtain ⟨_, b0, b1, b2⟩ := HB2.out))
    | (go_at_call 7; ((with_reducible refine (HL2.out _ hbw2).mono ?_); rintro e w3 ⟨rfl, hbw3, hb3⟩; have HA3 := hid (HA2.out.below hb3); have HB3 := hid (HB2.out.below hb3); obtain ⟨_, c0, c1, c2⟩ := HA3.out))
    | (go_at_call 9; refine (HE.out _ hbw3).mono ?_; rintro e w4 ⟨g, c, N, rfl, hN2, hN, hNc, hg, hgc, hbw4, hb4⟩
       have hd2 : decide ((N : Int) < 2) = false := decide_eq_false (by omega)
       have hN0 : (0 : Int) < (N : Int) := by omega
       have HA4 := hid (HA3.out.below hb4)
       have HB4 := hid (HB3.out.below hb4)
       obtain ⟨_, d0, d1, d2⟩ := HA4.out
       obtain ⟨_, e0, e1, e2⟩ := HB4.out))
  have hz4 : w.heap.size + 1 < w4.heap.size := HB4.out.1
  go_quiet (fail)
  go_wp2
  clear hbw1 hb1 hbw2 hb2 hbw3 hb3 hb4 a0 a1 a2 b0 b1 b2 c0 c1 c2
  rcases ho with ⟨rfl, rfl⟩ | ⟨rfl, rfl⟩
  all_goals
    go_region_held3 (fun w' => w'.cell? ⟨w.heap.size, 0, none⟩ = some (.int .i64 k1) ∧ w'.cell? ⟨w.heap.size, 1, none⟩ = some (.int .i64 n1) ∧ w'.cell? ⟨w.heap.size, 2, none⟩ = some (.string s1) ∧ w'.cell? ⟨w.heap.size + 1, 0, none⟩ = some (.int .i64 k2) ∧ w'.cell? ⟨w.heap.size + 1, 1, none⟩ = some (.int .i64 n2) ∧ w'.cell? ⟨w.heap.size + 1, 2, none⟩ = some (.string s2))
      (first | go_keep | (go_split_ands; refine ⟨?_, ?_, ?_, ?_, ?_, ?_⟩ <;> (rw [hbo.cell (by simp; omega)]; first | assumption | go_keep)))
      ((go_at_call 10; ((with_reducible refine (HO.out _ ?_).mono ?_); (first | (with_reducible exact below_drewN hbw4 _) | (with_reducible exact (below_drewN hbw4 _).drew) | (with_reducible exact hbw5) | (with_reducible exact hbw5.drew) | (with_reducible exact below_drewN hbw5 _)); rintro e w5 ⟨rfl, hbw5, hbo⟩; have hz5 : w.heap.size + 1 < w5.heap.size := (by have := hbo.size; (try simp at this); omega))))
  all_goals go_wp2
  all_goals go_ret
  all_goals exact ⟨rfl, by first | exact hbw5 | exact below_drewN hbw5 _⟩

theorem ord_kinds {k1 n1 k2 n2 : Int} {s1 s2 : List UInt8} (h : ¬ k1 = k2) : vOrd k1 n1 s1 k2 n2 s2 = if k1 < k2 then -1 else 1 := by
  unfold vOrd cmpI
  rw [if_neg h]
  by_cases h1 : k1 < k2
  · rw [if_pos h1, if_pos h1]
  · rw [if_neg h1, if_neg h1, if_pos (by omega)]

theorem order_in (k1 k2 : Int) {n1 n2 : Int} (hn1 : inI n1) (hn2 : inI n2) (s1 s2 : ByteArray) (w W : World) (hW : Below w.heap.size w W) :
    Calls Tryd.prog 10 #[.agg #[.int .i64 k1, .int .i64 n1, .string s1], .agg #[.int .i64 k2, .int .i64 n2, .string s2]] W fun e w' => e = .returned (.int .i64 (vOrd k1 n1 s1.data.toList k2 n2 s2.data.toList)) ∧ Below w.heap.size w w' ∧ Below W.heap.size W w' :=
  (vorder_any k1 k2 hn1 hn2 s1 s2 W).mono fun _ _ ⟨he, hb⟩ => ⟨he, hW.trans (hb.mono hW.size), hb⟩

/-- The law ValKinds, whatever the values. -/
theorem kinds_walk {k1 n1 k2 n2 : Int} (hn1 : inI n1) (hn2 : inI n2) (s1 s2 : ByteArray) (hs1 : s1.size ≤ 9223372036854775807) (hs2 : s2.size ≤ 9223372036854775807) (w : World) (hL : LaidIn w) :
    Calls Tryd.prog 5 #[.agg #[.int .i64 k1, .int .i64 n1, .string s1], .agg #[.int .i64 k2, .int .i64 n2, .string s2]] w fun e w' => e = .returned (.bool true) ∧ Below w.heap.size w w' := by
  have h2 : Two w k1 n1 s1 k2 n2 s2 := two_any s1 s2 hs1 hs2 w hL
  cases hl1 : decide (500 < s1.size)
  · cases hl2 : decide (500 < s2.size)
    · cases hr : vRight k1 n1 s1.data.toList
      · have hE : ∀ W, Below w.heap.size w W → Calls Tryd.prog 9 #[.agg #[.int .i64 k1, .int .i64 n1, .string s1]] W fun e w' => e = .returned (.tuple #[.slice none 0 0, .bool false]) ∧ Below w.heap.size w w' ∧ Below W.heap.size W w' := fun W hW =>
          (vencode_no k1 hn1 s1 hs1 hr W (hL.below hW)).mono fun _ _ ⟨he, hb⟩ => ⟨he, hW.trans (hb.mono hW.size), hb⟩
        by_cases hk : k1 = k2
        · exact kinds_eq_no s1 s2 w h2 hl1 hl2 (by simpa using hk) hE
        · have hO := fun W hW => order_in k1 k2 hn1 hn2 s1 s2 w W hW
          rw [ord_kinds hk] at hO
          by_cases hlt : k1 < k2
          · rw [if_pos hlt] at hO
            exact kinds_ne_no s1 s2 w h2 hl1 hl2 (by simpa using hk) (-1) true (Or.inl ⟨rfl, rfl⟩) (decide_eq_true hlt) hO hE
          · rw [if_neg hlt] at hO
            exact kinds_ne_no s1 s2 w h2 hl1 hl2 (by simpa using hk) 1 false (Or.inr ⟨rfl, rfl⟩) (decide_eq_false hlt) hO hE
      · have hE := fun W hW => enc_right k1 hn1 s1 hs1 hr w hL W hW
        have hkb : 1 ≤ k1 ∧ k1 ≤ 5 := by rcases right_kind hr with h | h | h | h | h <;> omega
        by_cases hk : k1 = k2
        · exact kinds_eq_yes s1 s2 w h2 hl1 hl2 (by simpa using hk) hkb hE
        · have hO := fun W hW => order_in k1 k2 hn1 hn2 s1 s2 w W hW
          rw [ord_kinds hk] at hO
          by_cases hlt : k1 < k2
          · rw [if_pos hlt] at hO
            exact kinds_ne_yes s1 s2 w h2 hl1 hl2 (by simpa using hk) (-1) true (Or.inl ⟨rfl, rfl⟩) (decide_eq_true hlt) hO hkb hE
          · rw [if_neg hlt] at hO
            exact kinds_ne_yes s1 s2 w h2 hl1 hl2 (by simpa using hk) 1 false (Or.inr ⟨rfl, rfl⟩) (decide_eq_false hlt) hO hkb hE
    · exact kinds_long2 s1 s2 w h2 hl1 hl2
  · exact kinds_long1 s1 s2 w h2 hl1

end Go.Proofs.YtcojapbfkjfmbaaDoor
