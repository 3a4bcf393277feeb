/- The document's Frame at any bytes. Conditions: the slice holds its bytes, 65536 at most. -/
import Derived.Test.YtofkfafdodhmdaaGreatDoorSCQ
namespace Go.Proofs.YtofkfafdodhmdaaGreatDoor
open Go.RowKit

set_option maxRecDepth 100000 in
set_option maxHeartbeats 2000000 in
theorem refFrame_any (v : Value) (l : List UInt8) (hlen : l.length ≤ 65536) (w : World) (h : SlA w v l) :
    Calls Tryz.prog 37 #[v] w fun e w' => ∃ v', e = .returned (.tuple #[v', .bool true]) ∧ Row w' w.heap.size v' (frameM l) ∧ Below w.heap.size w w' := by
  have HV := hid h
  obtain ⟨A, c, rfl, h2, h3, h4⟩ := h
  obtain ⟨n, hn⟩ : ∃ n, l.length = n := ⟨_, rfl⟩
  have HL := hid hlen
  have HN : Hid (∀ W : World, Calls Tryz.prog 41 #[.int .i64 (n : Int)] W fun e w' => ∃ v, e = .returned v ∧ Row w' W.heap.size v (numW l.length) ∧ Below W.heap.size W w') := fun W => by rw [hn]; exact refNum_any n (by omega) W
  have HS : Hid (∀ W : World, SlA W (.slice A n c) l → Calls Tryz.prog 73 #[.slice A n c] W fun e w' => e = .returned (.int .i64 ((sumN l : Nat) : Int)) ∧ w' = W) := fun W hW => refSum_any _ l (by omega) W hW
  have HF : Hid (∀ W : World, Calls Tryz.prog 72 #[.int .i64 ((sumN l : Nat) : Int)] W fun e w' => ∃ v, e = .returned v ∧ Row w' W.heap.size v (byW 4 (sumN l)) ∧ Below W.heap.size W w') := fun W => four_any _ (sumN_lt l) W
  have HNL : Hid ((numW l.length).length ≤ 9) := numW_len9 _ (by omega)
  have HE := hid hn
  rw [hn]
  rw [hn] at hlen HV
  clear h2 h3 h4 hn
  go_enter Tryz.func37, Tryz.ntmps37
  go_wp2_with (first
    | (go_at_call 41; refine (HN.out _).mono ?_; rintro e w1 ⟨v1, rfl, hR1, hb1⟩)
    | (go_at_call 73; refine (HS.out _ (HV.out.below (hb1.trans hb2))).mono ?_; rintro e w3 ⟨rfl, rfl⟩)
    | (go_at_call 72; refine (HF.out _).mono ?_; rintro e w4 ⟨v4, rfl, hR4, hb4⟩; have hS4 := hid hR4.sla; obtain ⟨A4, c4, rfl, _, _, _⟩ := hR4.sla)
    | (at_builtin; refine wpList_append_any rfl (.tmp 10) (.tmp 11) rfl rfl _ w.heap.size _ (numW l.length) rfl hR1 A c l (by rw [HE.out]; rfl) (HV.out.below hb1).holdsA (by have := HL.out; have := HNL.out; omega) hb1.size ?_; intro v2 w2 hR2 hb2)
    | (at_builtin; refine wpList_append_any rfl (.tmp 13) (.tmp 16) rfl rfl _ w.heap.size _ (numW l.length ++ l) rfl (hR2.keep hb4 hR2.block_lt) A4 c4 (byW 4 (sumN l)) rfl hS4.out.holdsA (by have := HL.out; have := HNL.out; rw [List.length_append, byW_len]; omega) (Nat.le_trans (hb1.trans hb2).size hb4.size) ?_; intro v5 w5 hR5 hb5))
  go_ret2
  exact ⟨_, rfl, hR5, ((hb1.trans hb2).trans (hb4.mono (hb1.trans hb2).size)).trans hb5⟩
end Go.Proofs.YtofkfafdodhmdaaGreatDoor
