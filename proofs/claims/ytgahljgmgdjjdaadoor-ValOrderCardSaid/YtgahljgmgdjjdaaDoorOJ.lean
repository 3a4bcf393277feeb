/- The law ValOrder answers true where the first two values are right, of unlike texts. Conditions: the listed variables of the library read as they are laid; the numbers are of 64 bits. -/
import Derived.Test.YtgahljgmgdjjdaaDoorOC
namespace Go.Proofs.YtgahljgmgdjjdaaDoor
open Go.RowKit

set_option maxHeartbeats 4000000 in
set_option maxRecDepth 100000 in
theorem order_ne3 {k1 n1 k3 n3 : Int} (s1 s2 s3 : ByteArray) (w : World) (h2 : Three w k1 n1 s1 k1 n1 s2 k3 n3 s3) (hl1 : decide (500 < s1.size) = false) (hl2 : decide (500 < s2.size) = false) (hl3 : decide (500 < s3.size) = false)
    (o12 o21 o23 o13 : Int) (hq : OrdAsk w k1 n1 s1 k1 n1 s2 k3 n3 s3 o12 o21 o23 o13 true true) (ho : (o12 = -1 ∧ o21 = 1) ∨ (o12 = 1 ∧ o21 = -1)) (ht : o12 ≤ 0 → o23 ≤ 0 → o13 ≤ 0) (hv : (s1.toList == s2.toList) = false) :
    Calls Tryd.prog 4 #[.agg #[.int .i64 k1, .int .i64 n1, .string s1], .agg #[.int .i64 k1, .int .i64 n1, .string s2], .agg #[.int .i64 k3, .int .i64 n3, .string s3]] w fun e w' => e = .returned (.bool true) ∧ Below w.heap.size w w' := by
  have HA := hid h2.alive
  have HL1 := hid h2.long1
  have HL2 := hid h2.long2
  have HL3 := hid h2.long3
  rw [hl1] at HL1
  rw [hl2] at HL2
  rw [hl3] at HL3
  have HB := hid (below3 w)
  have H12 := hid hq.a12
  have H21 := hid hq.a21
  have H11 := hid hq.a11
  have H23 := hid hq.a23
  have H13 := hid hq.a13
  have HR1 := hid hq.r1
  have HR2 := hid hq.r2
  have HT := hid ht
  have HO := hid ho
  clear h2 hl1 hl2 hl3 hq ht ho
  go_enter Tryd.func4, Tryd.ntmps4
  go_wp2_with (first
    | (go_at_call 12; refine (HA.out _ (HB.out _ _ _)).mono ?_; rintro e w1 ⟨rfl, hbw1, hb1⟩
       have HA1 := hid ((((Agg3.new w k1 n1 s1 23).alloc _).alloc _).below hb1)
       have HB1 := hid (((Agg3.new' (w.alloc _) (w.heap.size + 1) (by simp) k1 n1 s2 23).alloc _).below hb1)
       have HC1 := hid ((Agg3.new' ((w.alloc _).alloc _) (w.heap.size + 2) (by simp) k3 n3 s3 23).below hb1)
       obtain ⟨_, a0, a1, a2⟩ := HA1.out)
    | (go_at_call 13; ((with_reducible refine (HL1.out _ hbw1).mono ?_); rintro e w2 ⟨rfl, hbw2, hb2⟩; have HA2 := hid (HA1.out.below hb2); have HC2 := hid (HC1.out.below hb2); have HB2 := hid (HB1.out.below hb2); obtain ⟨_, b0, b1, b2⟩ := HB2.out))
    | (go_at_call 13; ((with_reducible refine (HL2.out _ hbw2).mono ?_); rintro e w3 ⟨rfl, hbw3, hb3⟩; have HA3 := hid (HA2.out.below hb3); have HC3 := hid (HC2.out.below hb3); have HB3 := hid (HB2.out.below hb3); obtain ⟨_, c0, c1, c2⟩ := HC3.out))
    | (go_at_call 13; ((with_reducible refine (HL3.out _ hbw3).mono ?_); rintro e w4 ⟨rfl, hbw4, hb4⟩; have HN := hid (nine_mk hbw4 (HA3.out.below hb4) (HB3.out.below hb4) (HC3.out.below hb4)))))
  clear HA1 HB1 HC1 HA2 HB2 HC2 HA3 HB3 HC3 a0 a1 a2 b0 b1 b2 c0 c1 c2 hb1 hb2 hb3 hb4 hbw1 hbw2 hbw3
  have q1 : IntKind.i64.wrap (-1) = -1 := by decide
  have q2 : IntKind.i64.wrap 1 = 1 := by decide
  have q3 : IntKind.i64.wrap 0 = 0 := by decide
  rcases HO.out with ⟨rfl, rfl⟩ | ⟨rfl, rfl⟩
  all_goals
    go_region_held3 (fun w' => Hid (Below w.heap.size w w' ∧ w.heap.size + 2 < w'.heap.size) ∧ w'.cell? ⟨w.heap.size, 0, none⟩ = some (.int .i64 k1) ∧ w'.cell? ⟨w.heap.size, 1, none⟩ = some (.int .i64 n1) ∧ w'.cell? ⟨w.heap.size, 2, none⟩ = some (.string s1) ∧ w'.cell? ⟨w.heap.size + 1, 0, none⟩ = some (.int .i64 k1) ∧ w'.cell? ⟨w.heap.size + 1, 1, none⟩ = some (.int .i64 n1) ∧ w'.cell? ⟨w.heap.size + 1, 2, none⟩ = some (.string s2) ∧ w'.cell? ⟨w.heap.size + 2, 0, none⟩ = some (.int .i64 k3) ∧ w'.cell? ⟨w.heap.size + 2, 1, none⟩ = some (.int .i64 n3) ∧ w'.cell? ⟨w.heap.size + 2, 2, none⟩ = some (.string s3))
      (first | exact HN.out | exact nine_drew HN.out | exact nine_call (by assumption) hbo | exact nine_drew (by assumption) | assumption)
      (first
        | (go_at_call 16; ((with_reducible refine (H12.out _ ?_).mono ?_); (exact nine_below (by assumption)); rintro e w5 ⟨rfl, hbo⟩))
        | (go_at_call 16; ((with_reducible refine (H21.out _ ?_).mono ?_); (exact nine_below (by assumption)); rintro e w5 ⟨rfl, hbo⟩))
        | (go_at_call 16; ((with_reducible refine (H11.out _ ?_).mono ?_); (exact nine_below (by assumption)); rintro e w5 ⟨rfl, hbo⟩)))
  all_goals
    go_wp2_with (first
      | (go_at_call 16; ((with_reducible refine (H12.out _ (nine_below (by assumption))).mono ?_); rintro e w6 ⟨rfl, hb6⟩; have HN6 := hid (nine_call (by assumption) hb6); obtain ⟨_, p0, p1, p2, p3, p4, p5, p6, p7, p8⟩ := HN6.out))
      | (go_at_call 16; ((with_reducible refine (H23.out _ (nine_below HN6.out)).mono ?_); rintro e w7 ⟨rfl, hb7⟩; have HN7 := hid (nine_call HN6.out hb7); obtain ⟨_, q0, q1, q2, q3, q4, q5, q6, q7, q8⟩ := HN7.out))
      | (go_at_call 16; ((with_reducible refine (H13.out _ (nine_below HN7.out)).mono ?_); rintro e w8 ⟨rfl, hb8⟩; have HN8 := hid (nine_call HN7.out hb8))))
  all_goals first
    | (exfalso; have := HT.out (by omega) (by omega); omega)
    | skip
  all_goals
    clear H21 H11 H23 H13 HT HO q1 q2 q3
  all_goals
    go_region_held3 (fun w' => Hid (Below w.heap.size w w' ∧ w.heap.size + 2 < w'.heap.size) ∧ w'.cell? ⟨w.heap.size, 0, none⟩ = some (.int .i64 k1) ∧ w'.cell? ⟨w.heap.size, 1, none⟩ = some (.int .i64 n1) ∧ w'.cell? ⟨w.heap.size, 2, none⟩ = some (.string s1) ∧ w'.cell? ⟨w.heap.size + 1, 0, none⟩ = some (.int .i64 k1) ∧ w'.cell? ⟨w.heap.size + 1, 1, none⟩ = some (.int .i64 n1) ∧ w'.cell? ⟨w.heap.size + 1, 2, none⟩ = some (.string s2) ∧ w'.cell? ⟨w.heap.size + 2, 0, none⟩ = some (.int .i64 k3) ∧ w'.cell? ⟨w.heap.size + 2, 1, none⟩ = some (.int .i64 n3) ∧ w'.cell? ⟨w.heap.size + 2, 2, none⟩ = some (.string s3))
      (first | exact nine_call (by assumption) hbo | exact nine_drew HN8.out | exact nine_drew HN7.out | exact nine_drew HN6.out | exact nine_drew (by assumption) | assumption)
      (first
        | (go_at_call 14; ((with_reducible refine (HR1.out _ ?_).mono ?_); (exact nine_below (by assumption)); rintro e w9 ⟨rfl, hbo⟩))
        | (go_at_call 14; ((with_reducible refine (HR2.out _ ?_).mono ?_); (exact nine_below (by assumption)); rintro e w10 ⟨rfl, hbo⟩))
        | (go_at_call 16; ((with_reducible refine (H12.out _ ?_).mono ?_); (exact nine_below (by assumption)); rintro e w11 ⟨rfl, hbo⟩)))
  all_goals go_wp2
  all_goals go_ret
  all_goals exact ⟨rfl, nine_below (by assumption)⟩

end Go.Proofs.YtgahljgmgdjjdaaDoor
