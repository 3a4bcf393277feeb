/- The document's cut, Remove. Conditions: the disk stands. -/
import Derived.Test.YtofkfafdodhmdaaSuI
namespace Go.Proofs.Ytofkfafdodhmdaa
open Go.RowKit

theorem mid_app {α : Type} (P Q : List α) (m : α) : P ++ m :: Q = (P ++ [m]) ++ Q := by rw [List.append_assoc]; rfl
set_option maxRecDepth 100000 in
set_option maxHeartbeats 4000000 in
theorem rcut_ok {w : World} {B rb nx : Nat} {fv lv : Value} {P Q : List Rm} {m : Rm} {ls : List Lm} {z : Int} (h : Rk w B rb fv lv (P ++ m :: Q) ls z nx) (hl : (P ++ m :: Q).length ≤ 100000) (i : Nat) (hi : P.length = i) :
    Calls Try.prog 37 #[.pointer (some ⟨rb, 0, none⟩), .int .i64 (i : Int)] w fun e w' => e = .returned (.tuple #[]) ∧ ∃ v, Rk w' B rb v lv (P ++ Q) ls z nx ∧ Chg (fun k => k = rb) w w' ∧ (∀ g, v.ownBlock = some g → w.heap.size ≤ g) := by
  obtain ⟨n, hn1⟩ : ∃ n, (P ++ m :: Q).length = n := ⟨_, rfl⟩
  obtain ⟨A, c, rfl⟩ := mrow_form h.fr hn1
  have m0 : w.cell? ⟨rb, 0, none⟩ = some (.slice A n c) := h.blk.cell 0
  have H := hid h
  have HP := hid hi
  have hQ : Q.length + (i + 1) = n := by rw [← hi, ← hn1, List.length_append, List.length_cons]; omega
  rw [hn1] at hl
  obtain ⟨hcap, hc63⟩ := mrow_cap h.fr hn1
  have hin : i + 1 ≤ n := by omega
  have hic : i ≤ c := by omega
  obtain ⟨g, rfl⟩ : ∃ g, A = some ⟨g, 0, none⟩ := by
    rcases mrow_some h.fr with ⟨_, e, _⟩ | h
    · exact absurd e (by simp)
    · exact h
  have HQ : Hid (Q.length = n - (i + 1)) := by unfold Hid; omega
  have w9 : IntKind.i64.wrap ((i : Int) + 1) = ((i + 1 : Nat) : Int) := by rw [IntKind.wrap_i64]; omega
  clear h hn1 hi hQ
  go_enter Try.func37, Try.ntmps37
  go_upto_region 1 with (fail)
  have HB0 := hid (below_new w (.cells #[] 64))
  have HR0 : Hid (MRow (w.alloc (.cells #[] 64)) w.heap.size (.slice (some ⟨w.heap.size, 0, none⟩) 0 0) []) := own_made w 64 4 w.heap.size (Nat.le_refl _) rfl
  obtain ⟨W0, hW0⟩ : ∃ W0, (w.alloc (.cells #[] 64)) = W0 := ⟨_, rfl⟩
  obtain ⟨G, hG⟩ : ∃ G, w.heap.size = G := ⟨_, rfl⟩
  have HGe := hid hG
  rw [hW0] at HB0 HR0 ⊢
  rw [hG] at HR0 ⊢
  have m2 : W0.cell? ⟨rb, 0, none⟩ = some (.slice (some ⟨g, 0, none⟩) n c) := (HB0.out.cell (p := ⟨rb, 0, none⟩) (cell_lt m0)).trans m0
  clear hW0 hG
  go_upto_region 2 with (at_builtin; refine wpList_append_fs rfl _ _ rfl rfl _ G (.slice (some ⟨G, 0, none⟩) 0 0) [] rfl HR0.out (some ⟨g, 0, none⟩) i c P HP.out rfl ((hold_left H.out.fr).below HB0.out) (fun f hf => row_one (H.out.sr f (List.mem_append_left _ hf))) (by simp; omega) (by have := HB0.out.size; rw [HGe.out] at this; exact this) ?_; intro v1 w1 hr1 hg1; have HR1 := hid hr1; have HG1 := hid hg1; clear hr1 hg1)
  have hb1 : Below w.heap.size w w1 := HB0.out.grown HG1.out HB0.out.size fun k e => by cases e; rw [HGe.out]; exact Nat.le_refl _
  have hr1 := HR1.out
  rw [List.nil_append] at hr1
  obtain ⟨A1, q1, rfl⟩ := mrow_form hr1 HP.out
  have HB1 := hid hb1
  have HR1' := hid hr1
  have m3 : w1.cell? ⟨rb, 0, none⟩ = some (.slice (some ⟨g, 0, none⟩) n c) := (HB1.out.cell (p := ⟨rb, 0, none⟩) (cell_lt m0)).trans m0
  have f3 : w1.frozen? ⟨rb, 0, none⟩ = false := (HB1.out.frozen (p := ⟨rb, 0, none⟩) (cell_lt m0)).trans (H.out.blk.free 0)
  have hsz1 : G ≤ w1.heap.size := by have := HB1.out.size; rw [HGe.out] at this; exact this
  clear hb1 hr1 HR1 HG1 HB0 HR0 m2
  have hHold : Hid (∀ A', (c = i + 1 → A' = some ⟨g, 0, none⟩) → (c ≠ i + 1 → A' = some ⟨g, (i + 1) * 4, none⟩) → HoldM w1 A' Q) := fun A' h1 h2 => by
    by_cases hci : c = i + 1
    · intro h0
      have : Q = [] := List.eq_nil_of_length_eq_zero (by rw [HQ.out]; omega)
      exact absurd this h0
    · rw [h2 hci]
      have hf := H.out.fr
      rw [mid_app] at hf
      exact (hold_right hf (by rw [List.length_append, HP.out]; rfl)).below HB1.out
  have HOn : Hid (∀ f ∈ Q, f.sv.oneCell' = true) := fun f hf => row_one (H.out.sr f (List.mem_append_right _ (List.mem_cons_of_mem _ hf)))
  have fin : Hid (∀ (v3 : Value) (w3 : World), MRow w3 G v3 (P ++ Q) → w1.grownBy w3 (Value.slice A1 i q1).ownBlock → (∃ v, Rk (w3.setCell ⟨rb, 0, none⟩ v3) B rb v lv (P ++ Q) ls z nx ∧ Chg (fun k => k = rb) w (w3.setCell ⟨rb, 0, none⟩ v3) ∧ (∀ g, v.ownBlock = some g → w.heap.size ≤ g)) ∧ w3.cell? ⟨rb, 0, none⟩ = some (.slice (some ⟨g, 0, none⟩) n c) ∧ w3.frozen? ⟨rb, 0, none⟩ = false) := fun v3 w3 hr3 hg3 => by
    have hb3 : Below w.heap.size w w3 := HB1.out.grown hg3 HB1.out.size fun k e => by have := (World.ownsRow.lt HR1'.out k e).1; rw [HGe.out]; exact this
    refine ⟨⟨v3, H.out.files hb3 (own_low hr3 (by rw [← HGe.out]; exact Nat.le_trans H.out.lo (Nat.le_of_lt H.out.blk.lt))) (fun f hf => ?_) ?_, (Chg.of_below (fun q => q = rb) hb3).trans (Chg.of_set w3 rb 0 _ (S := fun q => q = rb) rfl) (fun q hq => .inl hq), fun k hk => by rw [HGe.out]; exact (World.ownsRow.lt hr3 k hk).1⟩, ?_, ?_⟩
    · rcases List.mem_append.1 hf with q | q
      · exact H.out.sr f (List.mem_append_left _ q)
      · exact H.out.sr f (List.mem_append_right _ (List.mem_cons_of_mem _ q))
    · obtain ⟨p1, p2, p3⟩ := List.pairwise_append.1 H.out.ap
      exact List.pairwise_append.2 ⟨p1, (List.pairwise_cons.1 p2).2, fun a ha b hb => p3 a ha b (List.mem_cons_of_mem _ hb)⟩
    · exact (hb3.cell (p := ⟨rb, 0, none⟩) (cell_lt m0)).trans m0
    · exact (hb3.frozen (p := ⟨rb, 0, none⟩) (cell_lt m0)).trans (H.out.blk.free 0)
  obtain ⟨n3, hn3⟩ : ∃ n3, (P ++ Q).length = n3 := ⟨_, rfl⟩
  have HN3 := hid hn3
  clear hn3
  go_wp2_with (at_builtin; refine wpList_append_fs rfl _ _ rfl rfl _ G (.slice A1 i q1) P rfl HR1'.out _ (n - (i + 1)) (c - (i + 1)) Q HQ.out rfl (hHold.out _ (by intro e; simp [e]) (by intro e; simp [e])) HOn.out (by rw [HP.out]; omega) hsz1 ?_; intro v3 w3 hr3 hg3; obtain ⟨F1, m4, f4⟩ := fin.out v3 w3 hr3 hg3; obtain ⟨A3, q3, rfl⟩ := mrow_form hr3 HN3.out; have HF1 := hid F1; clear F1 hr3 hg3)
  all_goals
    go_end0
    exact ⟨rfl, HF1.out⟩
end Go.Proofs.Ytofkfafdodhmdaa
