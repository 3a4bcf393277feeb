/- The law ValAsks answers true for every two values. Conditions: the listed variables of the library read as they are laid; the numbers are of 64 bits. -/
import Derived.Test.YtgahljgmgdjjdaaGreatDoorAA
import Derived.Deep.RegionHeld3
namespace Go.Proofs.YtgahljgmgdjjdaaGreatDoor
open Go.RowKit

set_option maxHeartbeats 2000000 in
theorem asks_long {k1 n1 k2 n2 : Int} (s1 s2 : ByteArray) (w : World) (l1 l2 : Bool) (h2 : AskQ w k1 n1 s1 k2 n2 s2 l1 l2) (hx : l1 = true ∨ (l1 = false ∧ l2 = true)) :
    Calls Tryz.prog 3 #[.agg #[.int .i64 k1, .int .i64 n1, .string s1], .agg #[.int .i64 k2, .int .i64 n2, .string s2]] w fun e w' => e = .returned (.bool true) ∧ Below w.heap.size w w' := by
  have HA := hid h2.alive
  have HL1 := hid h2.long1
  have HL2 := hid h2.long2
  have HB := hid (below2 w)
  clear h2
  rcases hx with rfl | ⟨rfl, rfl⟩
  all_goals
    go_enter Tryz.func3, Tryz.ntmps3
    go_wp2_with (first
      | (go_at_call 6; refine (HA.out _ (HB.out _ _)).mono ?_; rintro e w1 ⟨rfl, hbw1, hb1⟩
         have HA1 := hid (((Agg3.new w k1 n1 s1 23).alloc _).below hb1)
         have HB1 := hid ((Agg3.new' (w.alloc _) (w.heap.size + 1) (by simp) k2 n2 s2 23).below hb1)
         obtain ⟨_, a0, a1, a2⟩ := HA1.out)
      | (go_at_call 7; ((with_reducible refine (HL1.out _ hbw1).mono ?_); rintro e w2 ⟨rfl, hbw2, hb2⟩; obtain ⟨_, b0, b1, b2⟩ := HB1.out.below hb2))
      | (go_at_call 7; ((with_reducible refine (HL2.out _ hbw2).mono ?_); rintro e w3 ⟨rfl, hbw3, hb3⟩)))
    go_ret
    exact ⟨rfl, by assumption⟩

set_option maxHeartbeats 8000000 in
set_option maxRecDepth 100000 in
theorem asks_main {k1 n1 k2 n2 : Int} (s1 s2 : ByteArray) (w : World) (h2 : AskQ w k1 n1 s1 k2 n2 s2 false false) (r : Bool) (o : Int) (T : ByteArray) (l : List UInt8) (hl : l.length ≤ 1000) (h3 : AskR w k1 n1 s1 k2 n2 s2 r o T l) :
    Calls Tryz.prog 3 #[.agg #[.int .i64 k1, .int .i64 n1, .string s1], .agg #[.int .i64 k2, .int .i64 n2, .string s2]] w fun e w' => e = .returned (.bool true) ∧ Below w.heap.size w w' := by
  have HA := hid h2.alive
  have HL1 := hid h2.long1
  have HL2 := hid h2.long2
  have HB := hid (below2 w)
  have HR := hid h3.right
  have HRR := hid h3.rright
  have HO := hid h3.ord
  have HRO := hid h3.rord
  have HS := hid h3.show_
  have HRS := hid h3.rshow
  have HE := hid h3.enc
  have HRE := hid h3.renc
  have HLL := hid hl
  clear h2 h3 hl
  go_enter Tryz.func3, Tryz.ntmps3
  go_wp2_with (first
    | (go_at_call 6; refine (HA.out _ (HB.out _ _)).mono ?_; rintro e w1 ⟨rfl, hbw1, hb1⟩
       have HA1 := hid (((Agg3.new w k1 n1 s1 23).alloc _).below hb1)
       have HB1 := hid ((Agg3.new' (w.alloc _) (w.heap.size + 1) (by simp) k2 n2 s2 23).below hb1)
       obtain ⟨_, a0, a1, a2⟩ := HA1.out)
    | (go_at_call 7; ((with_reducible refine (HL1.out _ hbw1).mono ?_); rintro e w2 ⟨rfl, hbw2, hb2⟩; have HA2 := hid (HA1.out.below hb2); have HB2 := hid (HB1.out.below hb2); obtain ⟨_, b0, b1, b2⟩ := HB2.out))
    | (go_at_call 7; ((with_reducible refine (HL2.out _ hbw2).mono ?_); rintro e w3 ⟨rfl, hbw3, hb3⟩; have HA3 := hid (HA2.out.below hb3); have HB3 := hid (HB2.out.below hb3); obtain ⟨_, c0, c1, c2⟩ := HA3.out))
    | (go_at_call 8; refine (HE.out _ hbw3).mono ?_; rintro e w4 ⟨V1, rfl, hV1, hbw4, hb4⟩; have HV1 := hid hV1; clear hV1; have HA4 := hid (HA3.out.below hb4); have HB4 := hid (HB3.out.below hb4); obtain ⟨_, d0, d1, d2⟩ := HA4.out)
    | (go_at_call 9; refine (HRE.out _ hbw4).mono ?_; rintro e w5 ⟨V2, rfl, hV2, hbw5, hb5⟩; have HN := hid (sixV_mk hbw5 (HA4.out.below hb5) (HB4.out.below hb5) (HV1.out.below hb5) hV2); clear hV2))
  clear HA1 HB1 HA2 HB2 HA3 HB3 HA4 HB4 HV1 a0 a1 a2 b0 b1 b2 c0 c1 c2 d0 d1 d2 hb1 hb2 hb3 hb4 hb5 hbw1 hbw2 hbw3 hbw4 hbw5 HA HL1 HL2 HE HRE HB
  go_region_held3 (fun w' => Hid (Below w.heap.size w w' ∧ w.heap.size + 1 < w'.heap.size ∧ Sl l V1 w' ∧ Sl l V2 w') ∧ w'.cell? ⟨w.heap.size, 0, none⟩ = some (.int .i64 k1) ∧ w'.cell? ⟨w.heap.size, 1, none⟩ = some (.int .i64 n1) ∧ w'.cell? ⟨w.heap.size, 2, none⟩ = some (.string s1) ∧ w'.cell? ⟨w.heap.size + 1, 0, none⟩ = some (.int .i64 k2) ∧ w'.cell? ⟨w.heap.size + 1, 1, none⟩ = some (.int .i64 n2) ∧ w'.cell? ⟨w.heap.size + 1, 2, none⟩ = some (.string s2))
    (first | exact sixV_call (k1 := k1) (n1 := n1) (s1 := s1) (k2 := k2) (n2 := n2) (s2 := s2) (l := l) (V1 := V1) (V2 := V2) (by assumption) hbo | exact sixV_call (sixV_drew HN.out) hbo | exact sixV_drew HN.out | exact sixV_drew (k1 := k1) (n1 := n1) (s1 := s1) (k2 := k2) (n2 := n2) (s2 := s2) (l := l) (V1 := V1) (V2 := V2) (by assumption) | assumption)
    (first
      | (go_at_call 10; ((with_reducible refine (HR.out _ ?_).mono ?_); (first | exact sixV_below (k1 := k1) (n1 := n1) (s1 := s1) (k2 := k2) (n2 := n2) (s2 := s2) (l := l) (V1 := V1) (V2 := V2) (by assumption) | exact sixV_below (sixV_drew HN.out)); rintro e w9 ⟨rfl, hbo⟩))
      | (go_at_call 11; ((with_reducible refine (HRR.out _ ?_).mono ?_); (exact sixV_below (k1 := k1) (n1 := n1) (s1 := s1) (k2 := k2) (n2 := n2) (s2 := s2) (l := l) (V1 := V1) (V2 := V2) (by assumption)); rintro e w10 ⟨rfl, hbo⟩))
      | (go_at_call 12; ((with_reducible refine (HO.out _ ?_).mono ?_); (exact sixV_below (k1 := k1) (n1 := n1) (s1 := s1) (k2 := k2) (n2 := n2) (s2 := s2) (l := l) (V1 := V1) (V2 := V2) (by assumption)); rintro e w11 ⟨rfl, hbo⟩))
      | (go_at_call 13; ((with_reducible refine (HRO.out _ ?_).mono ?_); (exact sixV_below (k1 := k1) (n1 := n1) (s1 := s1) (k2 := k2) (n2 := n2) (s2 := s2) (l := l) (V1 := V1) (V2 := V2) (by assumption)); rintro e w12 ⟨rfl, hbo⟩))
      | (go_at_call 14; ((with_reducible refine (Sl.same (l := l) ?_ ?_ HLL.out).mono ?_); (exact sixV_x (k1 := k1) (n1 := n1) (s1 := s1) (k2 := k2) (n2 := n2) (s2 := s2) (l := l) (V1 := V1) (V2 := V2) (w := w) (by assumption)); (exact sixV_y (k1 := k1) (n1 := n1) (s1 := s1) (k2 := k2) (n2 := n2) (s2 := s2) (l := l) (V1 := V1) (V2 := V2) (w := w) (by assumption)); rintro e w13 ⟨rfl, hbo⟩))
      | (go_at_call 15; ((with_reducible refine (HS.out _ ?_).mono ?_); (exact sixV_below (k1 := k1) (n1 := n1) (s1 := s1) (k2 := k2) (n2 := n2) (s2 := s2) (l := l) (V1 := V1) (V2 := V2) (by assumption)); rintro e w14 ⟨rfl, hbo⟩))
      | (go_at_call 16; ((with_reducible refine (HRS.out _ ?_).mono ?_); (exact sixV_below (k1 := k1) (n1 := n1) (s1 := s1) (k2 := k2) (n2 := n2) (s2 := s2) (l := l) (V1 := V1) (V2 := V2) (by assumption)); rintro e w15 ⟨rfl, hbo⟩)))
  go_wp2
  go_ret
  exact ⟨rfl, sixV_below (k1 := k1) (n1 := n1) (s1 := s1) (k2 := k2) (n2 := n2) (s2 := s2) (l := l) (V1 := V1) (V2 := V2) (by assumption)⟩

/-- The law ValAsks, whatever the values. -/
theorem asks_walk {k1 n1 k2 n2 : Int} (hn1 : inI n1) (hn2 : inI n2) (s1 s2 : ByteArray) (hs1 : s1.size ≤ 9223372036854775807) (hs2 : s2.size ≤ 9223372036854775807) (w : World) (hL : LaidIn w) :
    Calls Tryz.prog 3 #[.agg #[.int .i64 k1, .int .i64 n1, .string s1], .agg #[.int .i64 k2, .int .i64 n2, .string s2]] w fun e w' => e = .returned (.bool true) ∧ Below w.heap.size w w' := by
  have h2 : AskQ w k1 n1 s1 k2 n2 s2 (decide (500 < s1.size)) (decide (500 < s2.size)) :=
    ⟨fun W hW => (alive_any W (hL.below hW)).mono fun _ _ ⟨he, hb⟩ => ⟨he, hW.trans (hb.mono hW.size), hb⟩,
     fun W hW => (long_any k1 n1 s1 W hs1).mono fun _ _ ⟨he, hb⟩ => ⟨he, hW.trans (hb.mono hW.size), hb⟩,
     fun W hW => (long_any k2 n2 s2 W hs2).mono fun _ _ ⟨he, hb⟩ => ⟨he, hW.trans (hb.mono hW.size), hb⟩⟩
  cases hl1 : decide (500 < s1.size)
  · cases hl2 : decide (500 < s2.size)
    · rw [hl1, hl2] at h2
      have z1 : s1.size ≤ 1000 := by simp at hl1; omega
      have z2 : s2.size ≤ 1000 := by simp at hl2; omega
      cases hr : vRight k1 n1 s1.data.toList
      · refine asks_main s1 s2 w h2 false (vOrd k1 n1 s1.data.toList k2 n2 s2.data.toList) ⟨(vShow k1 n1 s1.data.toList).toArray⟩ [] (by simp) ?_
        exact ⟨fun W hW => by rw [← hr]; exact vright_any k1 hn1 s1 W hs1 (hL.below hW), fun W _ => by rw [← hr]; exact refright_any k1 n1 s1 W z1,
          fun W _ => vorder_any k1 k2 hn1 hn2 s1 s2 W, fun W _ => refVorder_any k1 k2 hn1 hn2 s1 s2 hs1 hs2 W,
          fun W hW => vshow_any k1 hn1 s1 W hs1 (hL.below hW), fun W _ => refvshow_any k1 hn1 s1 W z1,
          fun W hW => (vencode_no k1 hn1 s1 hs1 hr W (hL.below hW)).mono fun _ _ ⟨he, hb⟩ => ⟨_, he, .inl ⟨rfl, rfl⟩, hW.trans (hb.mono hW.size), hb⟩,
          fun W hW => (refEncode_no k1 n1 s1 z1 hr W).mono fun _ _ ⟨he, hb⟩ => ⟨_, he, .inl ⟨rfl, rfl⟩, hW.trans (hb.mono hW.size), hb⟩⟩
      · refine asks_main s1 s2 w h2 true (vOrd k1 n1 s1.data.toList k2 n2 s2.data.toList) ⟨(vShow k1 n1 s1.data.toList).toArray⟩ (vEnc k1 n1 s1.data.toList) (by have := enc_small hr; omega) ?_
        have h0 : 0 < (vEnc k1 n1 s1.data.toList).length := by have := enc_two hr; omega
        exact ⟨fun W hW => by rw [← hr]; exact vright_any k1 hn1 s1 W hs1 (hL.below hW), fun W _ => by rw [← hr]; exact refright_any k1 n1 s1 W z1,
          fun W _ => vorder_any k1 k2 hn1 hn2 s1 s2 W, fun W _ => refVorder_any k1 k2 hn1 hn2 s1 s2 hs1 hs2 W,
          fun W hW => vshow_any k1 hn1 s1 W hs1 (hL.below hW), fun W _ => refvshow_any k1 hn1 s1 W z1,
          fun W hW => (vencode_yes k1 hn1 s1 hs1 hr W (hL.below hW)).mono fun _ _ ⟨v, he, hR, hb⟩ => ⟨v, he, Sl.of_row hR h0, hW.trans (hb.mono hW.size), hb⟩,
          fun W hW => (refEncode_yes k1 hn1 s1 z1 hr W).mono fun _ _ ⟨v, he, hR, hb⟩ => ⟨v, he, Sl.of_row hR h0, hW.trans (hb.mono hW.size), hb⟩⟩
    · exact asks_long s1 s2 w _ _ h2 (.inr ⟨hl1, hl2⟩)
  · exact asks_long s1 s2 w _ _ h2 (.inl hl1)

end Go.Proofs.YtgahljgmgdjjdaaGreatDoor
