/- The law ValBack answers true where the value is right. Conditions: the listed variables of the library read as they are laid; the numbers are of 64 bits. -/
import Derived.Test.YtgahljgmgdjjdaaGreatDoorBA
namespace Go.Proofs.YtgahljgmgdjjdaaGreatDoor
open Go.RowKit

set_option maxHeartbeats 4000000 in
set_option maxRecDepth 100000 in
theorem back_yes {k n cut : Int} (S : ByteArray) (T : ByteArray) (w : World) (x : List UInt8) (hx2 : 2 ≤ x.length) (hx : x.length ≤ 1000) (h : BackAsk w k n S false true) (hsh : vShow k n S.data.toList = T.data.toList) (hT : (T.toList == [63]) = false) (hcut : (0 ≤ cut ∧ cut < x.length) ∨ ¬ (0 ≤ cut ∧ cut < x.length))
    (hE : ∀ W, Below w.heap.size w W → Calls Tryz.prog 8 #[.agg #[.int .i64 k, .int .i64 n, .string S]] W fun e w' => ∃ g c, e = .returned (.tuple #[.slice (some ⟨g, 0, none⟩) x.length c, .bool true]) ∧ x.length ≤ c ∧ c ≤ maxLen ∧ W.heap.size ≤ g ∧ g < w'.heap.size ∧ Holds w' g 0 x ∧ Below w.heap.size w w' ∧ Below W.heap.size W w')
    (hR : ∀ W, Below w.heap.size w W → Calls Tryz.prog 19 #[.string T] W fun e w' => e = .returned (.tuple #[.agg #[.int .i64 k, .int .i64 n, .string S], .bool true]) ∧ Below W.heap.size W w')
    (hD : ∀ W g c, Below w.heap.size w W → x.length ≤ c → Holds W g 0 x → Calls Tryz.prog 17 #[.slice (some ⟨g, 0, none⟩) x.length c] W fun e w' => e = .returned (.tuple #[.agg #[.int .i64 k, .int .i64 n, .string S], .bool true]) ∧ Below W.heap.size W w')
    (hDc : ∀ W g c, Below w.heap.size w W → x.length ≤ c → Holds W g 0 x → ∀ m : Nat, (m : Int) = cut → m < x.length → Calls Tryz.prog 17 #[.slice (some ⟨g, 0, none⟩) m c] W fun e w' => e = .returned (.tuple #[.agg #[.int .i64 0, .int .i64 0, .string ⟨#[]⟩], .bool false]) ∧ Below W.heap.size W w')
    (hDm : ∀ W v, Below w.heap.size w W → Row W w.heap.size v (x ++ [0]) → Calls Tryz.prog 17 #[v] W fun e w' => e = .returned (.tuple #[.agg #[.int .i64 0, .int .i64 0, .string ⟨#[]⟩], .bool false]) ∧ Below W.heap.size W w')
    (hC : ∀ W g c, Below w.heap.size w W → Holds W g 0 x → Calls Tryz.prog 21 #[.slice (some ⟨g, 0, none⟩) x.length c] W fun e w' => ∃ v, e = .returned v ∧ Row w' w.heap.size v x ∧ Below W.heap.size W w') :
    Calls Tryz.prog 5 #[.agg #[.int .i64 k, .int .i64 n, .string S], .int .i64 cut] w fun e w' => e = .returned (.bool true) ∧ Below w.heap.size w w' := by
  have HA := hid h.alive
  have HL := hid h.long
  have HR := hid h.right
  have HSh := hid h.show_
  have hTT : (⟨(vShow k n S.data.toList).toArray⟩ : ByteArray) = T := bytes_ext' hsh
  rw [hTT] at HSh
  have HE := hid hE
  have HRd := hid hR
  have HD := hid hD
  have HDc := hid hDc
  have HDm := hid hDm
  have HC := hid hC
  have HB := hid (below_new w)
  have HX := hid hx
  obtain ⟨N, hN⟩ : ∃ N, x.length = N := ⟨_, rfl⟩
  rw [hN] at HE HD HDc HC HX hx2 hcut
  have HN := hid hN
  have HX2 := hid hx2
  have hN2 : 2 ≤ N := hx2
  have hN3 : N ≤ 1000 := HX.out
  clear h hE hsh hR hD hDc hDm hC hx hx2 hTT hN
  rcases hcut with ⟨hc0, hc1⟩ | hc
  · obtain ⟨m, rfl⟩ : ∃ m : Nat, cut = m := ⟨cut.toNat, by omega⟩
    have hm : m < N := by omega
    have hd1 : decide (m < N) = true := decide_eq_true hm
    clear hc0 hc1
    go_enter Tryz.func5, Tryz.ntmps5
    go_wp2_with (first
      | (go_at_call 6; refine (HA.out _ (HB.out _)).mono ?_; rintro e w1 ⟨rfl, hbw1, hb1⟩
         have HA1 := hid ((Agg3.new w k n S 23).below hb1)
         obtain ⟨_, a0, a1, a2⟩ := HA1.out)
      | (go_at_call 7; refine (HL.out _ hbw1).mono ?_; rintro e w2 ⟨rfl, hbw2, hb2⟩; have HA2 := hid (HA1.out.below hb2); obtain ⟨_, b0, b1, b2⟩ := HA2.out)
      | (go_at_call 8; refine (HE.out _ hbw2).mono ?_; rintro e w3 ⟨g, c, rfl, hNc, hcm, hg1, hg2, hxx, hbw3, hb3⟩; have HG3 := hid hxx; clear hxx; have HA3 := hid (HA2.out.below hb3); obtain ⟨_, c0, c1, c2⟩ := HA3.out)
      | (go_at_call 15; refine (HSh.out _ hbw3).mono ?_; rintro e w4 ⟨rfl, hbw4, hb4⟩; have HA4 := hid (HA3.out.below hb4); have HG4 := hid (HG3.out.below hb4 hg2); have hg4 := Nat.lt_of_lt_of_le hg2 hb4.size; obtain ⟨_, d0, d1, d2⟩ := HA4.out)
      | (go_at_call 10; refine (HR.out _ hbw4).mono ?_; rintro e w5 ⟨rfl, hbw5, hb5⟩; have HA5 := hid (HA4.out.below hb5); have HG5 := hid (HG4.out.below hb5 hg4); have hg5 := Nat.lt_of_lt_of_le hg4 hb5.size)
      | (go_at_call 17; ((with_reducible refine (HD.out _ g c hbw5 hNc HG5.out).mono ?_); rintro e w6 ⟨rfl, hb6⟩; have hbw6 := hbw5.trans (hb6.mono hbw5.size); have HA6 := hid (HA5.out.below hb6); have HG6 := hid (HG5.out.below hb6 hg5); have hg6 := Nat.lt_of_lt_of_le hg5 hb6.size))
      | (go_at_call 19; refine (HRd.out _ (hbw6.alloc hbw6.size _)).mono ?_; rintro e w7 ⟨rfl, hb7⟩; have hz6 := hbw6.size; have hs7 := hb7.size; have hbw7 := (hbw6.alloc hbw6.size _).trans (hb7.mono (by simp; omega)); have HA7 := hid ((HA6.out.alloc _).below hb7); have HX7 := hid ((Agg3.new w6 k n S 23).below hb7)
         have HG7 : Hid (Holds w7 g 0 x) := fun i hi => ((hb7.cell (p := ⟨g, 0 + i, none⟩) (by simp; omega)).trans (World.cell?_alloc_past _ _ _ hg6)).trans (HG6.out i hi)
         have hg7 : g < w7.heap.size := Nat.lt_of_lt_of_le hg6 (by simp at hs7; omega)
         obtain ⟨_, p0, p1, p2⟩ := HA7.out.alloc (.cells #[.int .i64 k, .int .i64 n, .string S] 23)
         obtain ⟨_, q0, q1, q2⟩ := HX7.out.alloc (.cells #[.int .i64 k, .int .i64 n, .string S] 23)
         have HW8 := hid (hbw7.alloc hbw7.size (.cells #[.int .i64 k, .int .i64 n, .string S] 23))
         have HG8 : Hid (Holds (w7.alloc (.cells #[.int .i64 k, .int .i64 n, .string S] 23)) g 0 x) := fun i hi => (World.cell?_alloc_past _ _ _ hg7).trans (HG7.out i hi)
         have hz7 := hbw7.size
         obtain ⟨_, r0, r1, r2⟩ := Agg3.new w7 k n S 23))
    obtain ⟨W8, hW8⟩ : ∃ W8, w7.alloc (.cells #[.int .i64 k, .int .i64 n, .string S] 23) = W8 := ⟨_, rfl⟩
    have hg8 : g < W8.heap.size := by rw [← hW8]; simp; omega
    rw [hW8] at p0 p1 p2 q0 q1 q2 r0 r1 r2 HW8 HG8 ⊢
    have hbW8 := HW8.out
    have hz8 := hbW8.size
    clear hW8 hb1 hb2 hb3 hb4 hb5 hb6 hb7 hbw1 hbw2 hbw3 hbw4 hbw5 hbw6 hbw7 hs7 HA1 HA2 HA3 HA4 HA5 HA6 HA7 HX7 HG3 HG4 HG5 HG6 HG7 a0 a1 a2 b0 b1 b2 c0 c1 c2 d0 d1 d2
    have hcm' := hcm
    unfold maxLen at hcm'
    go_wp2_with (first
      | (go_at_call 17; ((with_reducible refine (HDc.out _ g c hbW8 hNc HG8.out m rfl hm).mono ?_); rintro e w9 ⟨rfl, hb9⟩; have hbw9 := hbW8.trans (hb9.mono hz8); have HG9 := hid (HG8.out.below hb9 hg8); have hz9 := hbw9.size))
      | (go_at_call 21; refine (HC.out _ g c hbw9 HG9.out).mono ?_; rintro e w10 ⟨v10, rfl, hR10, hb10⟩; have hbw10 := hbw9.trans (hb10.mono hz9); have HR10 := hid hR10; clear hR10; have hz10 := hbw10.size)
      | (at_builtin; refine wpList_append_bytes rfl (.tmp 82) (.tmp 83) rfl _ w.heap.size _ _ rfl (HR10.out.alloc _) ⟨w10.heap.size, 0, none⟩ 1 1 [0] rfl rfl (one_new' _ _ _ _ rfl) (by have := HX.out; have := HN.out; simp only [List.length_cons, List.length_nil]; omega) (by simp; omega) ?_; intro v11 w11 hR11 hb11; have hbw11 := (hbw10.alloc hbw10.size _).trans hb11)
      | (go_at_call 17; ((with_reducible refine (HDm.out _ _ hbw11 hR11).mono ?_); rintro e w12 ⟨rfl, hb12⟩)))
    go_ret
    exact ⟨rfl, hbw11.trans (hb12.mono hbw11.size)⟩
  · have hq : (decide (0 ≤ cut) = true ∧ decide (cut < (N : Int)) = false) ∨ decide (0 ≤ cut) = false := by
      by_cases h0 : 0 ≤ cut
      · exact .inl ⟨decide_eq_true h0, decide_eq_false (by omega)⟩
      · exact .inr (decide_eq_false h0)
    clear hc
    rcases hq with ⟨hq1, hq2⟩ | hq1
    all_goals
      go_enter Tryz.func5, Tryz.ntmps5
      go_wp2_with (first
        | (go_at_call 6; refine (HA.out _ (HB.out _)).mono ?_; rintro e w1 ⟨rfl, hbw1, hb1⟩
           have HA1 := hid ((Agg3.new w k n S 23).below hb1)
           obtain ⟨_, a0, a1, a2⟩ := HA1.out)
        | (go_at_call 7; refine (HL.out _ hbw1).mono ?_; rintro e w2 ⟨rfl, hbw2, hb2⟩; have HA2 := hid (HA1.out.below hb2); obtain ⟨_, b0, b1, b2⟩ := HA2.out)
        | (go_at_call 8; refine (HE.out _ hbw2).mono ?_; rintro e w3 ⟨g, c, rfl, hNc, hcm, hg1, hg2, hxx, hbw3, hb3⟩; have HG3 := hid hxx; clear hxx; have HA3 := hid (HA2.out.below hb3); obtain ⟨_, c0, c1, c2⟩ := HA3.out)
        | (go_at_call 15; refine (HSh.out _ hbw3).mono ?_; rintro e w4 ⟨rfl, hbw4, hb4⟩; have HA4 := hid (HA3.out.below hb4); have HG4 := hid (HG3.out.below hb4 hg2); have hg4 := Nat.lt_of_lt_of_le hg2 hb4.size; obtain ⟨_, d0, d1, d2⟩ := HA4.out)
        | (go_at_call 10; refine (HR.out _ hbw4).mono ?_; rintro e w5 ⟨rfl, hbw5, hb5⟩; have HA5 := hid (HA4.out.below hb5); have HG5 := hid (HG4.out.below hb5 hg4); have hg5 := Nat.lt_of_lt_of_le hg4 hb5.size)
        | (go_at_call 17; ((with_reducible refine (HD.out _ g c hbw5 hNc HG5.out).mono ?_); rintro e w6 ⟨rfl, hb6⟩; have hbw6 := hbw5.trans (hb6.mono hbw5.size); have HA6 := hid (HA5.out.below hb6); have HG6 := hid (HG5.out.below hb6 hg5); have hg6 := Nat.lt_of_lt_of_le hg5 hb6.size))
        | (go_at_call 19; refine (HRd.out _ (hbw6.alloc hbw6.size _)).mono ?_; rintro e w7 ⟨rfl, hb7⟩; have hz6 := hbw6.size; have hs7 := hb7.size; have hbw7 := (hbw6.alloc hbw6.size _).trans (hb7.mono (by simp; omega)); have HA7 := hid ((HA6.out.alloc _).below hb7); have HX7 := hid ((Agg3.new w6 k n S 23).below hb7)
           have HG7 : Hid (Holds w7 g 0 x) := fun i hi => ((hb7.cell (p := ⟨g, 0 + i, none⟩) (by simp; omega)).trans (World.cell?_alloc_past _ _ _ hg6)).trans (HG6.out i hi)
           have hg7 : g < w7.heap.size := Nat.lt_of_lt_of_le hg6 (by simp at hs7; omega)
           obtain ⟨_, p0, p1, p2⟩ := HA7.out.alloc (.cells #[.int .i64 k, .int .i64 n, .string S] 23)
           obtain ⟨_, q0, q1, q2⟩ := HX7.out.alloc (.cells #[.int .i64 k, .int .i64 n, .string S] 23)
           have HW8 := hid (hbw7.alloc hbw7.size (.cells #[.int .i64 k, .int .i64 n, .string S] 23))
           have HG8 : Hid (Holds (w7.alloc (.cells #[.int .i64 k, .int .i64 n, .string S] 23)) g 0 x) := fun i hi => (World.cell?_alloc_past _ _ _ hg7).trans (HG7.out i hi)
           have hz7 := hbw7.size
           obtain ⟨_, r0, r1, r2⟩ := Agg3.new w7 k n S 23))
      obtain ⟨W8, hW8⟩ : ∃ W8, w7.alloc (.cells #[.int .i64 k, .int .i64 n, .string S] 23) = W8 := ⟨_, rfl⟩
      have hg8 : g < W8.heap.size := by rw [← hW8]; simp; omega
      rw [hW8] at p0 p1 p2 q0 q1 q2 r0 r1 r2 HW8 HG8 ⊢
      have hbW8 := HW8.out
      have hz8 := hbW8.size
      clear hW8 hb1 hb2 hb3 hb4 hb5 hb6 hb7 hbw1 hbw2 hbw3 hbw4 hbw5 hbw6 hbw7 hs7 HA1 HA2 HA3 HA4 HA5 HA6 HA7 HX7 HG3 HG4 HG5 HG6 HG7 a0 a1 a2 b0 b1 b2 c0 c1 c2 d0 d1 d2
      have hcm' := hcm
      unfold maxLen at hcm'
      go_wp2_with (first
        | (go_at_call 21; refine (HC.out _ g c hbW8 HG8.out).mono ?_; rintro e w10 ⟨v10, rfl, hR10, hb10⟩; have hbw10 := hbW8.trans (hb10.mono hz8); have HR10 := hid hR10; clear hR10; have hz10 := hbw10.size)
        | (at_builtin; refine wpList_append_bytes rfl (.tmp 82) (.tmp 83) rfl _ w.heap.size _ _ rfl (HR10.out.alloc _) ⟨w10.heap.size, 0, none⟩ 1 1 [0] rfl rfl (one_new' _ _ _ _ rfl) (by have := HX.out; have := HN.out; simp only [List.length_cons, List.length_nil]; omega) (by simp; omega) ?_; intro v11 w11 hR11 hb11; have hbw11 := (hbw10.alloc hbw10.size _).trans hb11)
        | (go_at_call 17; ((with_reducible refine (HDm.out _ _ hbw11 hR11).mono ?_); rintro e w12 ⟨rfl, hb12⟩)))
      go_ret
      exact ⟨rfl, hbw11.trans (hb12.mono hbw11.size)⟩

end Go.Proofs.YtgahljgmgdjjdaaGreatDoor
