/- alive of layer 13. Conditions: the tables of utf8 read as they are laid. -/
import Derived.Test.YtgfkobfkncpmoaaDoorFtL
namespace Go.Proofs.YtgfkobfkncpmoaaDoor
open Go.RowKit

/-- A cell of alive's. -/
def pt13 (r : UInt8) (t : Int) : CT := ⟨⟨#[r]⟩, ⟨#[102]⟩, ⟨#[113]⟩, t, 1, 1, 0, ⟨#[]⟩⟩
set_option maxRecDepth 100000 in
theorem put13_any (r : ByteArray) (t : Int) (w : World) : Calls Tryd.prog 131 #[.string r, .int .i64 t] w fun e w' => e = .returned (.agg #[.string r, .string ⟨#[102]⟩, .string ⟨#[113]⟩, .int .i64 t, .int .i64 1, .int .i64 1, .int .i64 0, .string ⟨#[]⟩]) ∧ Below w.heap.size w w' := by
  go_enter Tryd.func131, Tryd.ntmps131
  go_wp2
  refine bodyPost_ret (v := .agg #[.string r, .string ⟨#[102]⟩, .string ⟨#[113]⟩, .int .i64 t, .int .i64 1, .int .i64 1, .int .i64 0, .string ⟨#[]⟩]) (by simp [results, Tryd.results131, go_sem]) rfl ?_
  exact ⟨rfl, below_new _ _⟩
def al13 : List CT := [pt13 97 2, pt13 97 1, pt13 98 1]
def fv13 : FT := ⟨[], ⟨#[]⟩, ⟨#[]⟩, 0, 0, 1, 0⟩
def fr13 : FT := ⟨[], ⟨#[]⟩, ⟨#[]⟩, 0, 0, 0, 1⟩
def f013 : FT := ⟨[], ⟨#[]⟩, ⟨#[]⟩, 0, 0, 0, 0⟩
def fm13 : FT := ⟨[], ⟨#[]⟩, ⟨#[]⟩, 0, 0, 0, -1⟩
theorem ap_v13 : apL fv13 al13 = [pt13 97 2, pt13 98 1] := by rfl
theorem ap_r13 : apL fr13 al13 = [pt13 97 2, pt13 97 1] := by rfl
theorem rt_013 : f013.right = true := by rfl
theorem rt_m13 : fm13.right = false := by rfl
theorem txa_nil13 (w : World) : TxA w (.slice none 0 0) [] := ⟨none, 0, rfl, Nat.le_refl _, by omega, fun h => absurd h (by simp)⟩
theorem three13 (W : World) : ClA (W.alloc (.cells #[.string ⟨#[97]⟩, .string ⟨#[102]⟩, .string ⟨#[113]⟩, .int .i64 2, .int .i64 1, .int .i64 1, .int .i64 0, .string ⟨#[]⟩, .string ⟨#[97]⟩, .string ⟨#[102]⟩, .string ⟨#[113]⟩, .int .i64 1, .int .i64 1, .int .i64 1, .int .i64 0, .string ⟨#[]⟩, .string ⟨#[98]⟩, .string ⟨#[102]⟩, .string ⟨#[113]⟩, .int .i64 1, .int .i64 1, .int .i64 1, .int .i64 0, .string ⟨#[]⟩] 28)) (.slice (some ⟨W.heap.size, 0, none⟩) 3 3) al13 := by
  have hb := Blk.new W 28 #[.string ⟨#[97]⟩, .string ⟨#[102]⟩, .string ⟨#[113]⟩, .int .i64 2, .int .i64 1, .int .i64 1, .int .i64 0, .string ⟨#[]⟩, .string ⟨#[97]⟩, .string ⟨#[102]⟩, .string ⟨#[113]⟩, .int .i64 1, .int .i64 1, .int .i64 1, .int .i64 0, .string ⟨#[]⟩, .string ⟨#[98]⟩, .string ⟨#[102]⟩, .string ⟨#[113]⟩, .int .i64 1, .int .i64 1, .int .i64 1, .int .i64 0, .string ⟨#[]⟩]
  refine ⟨_, 3, rfl, by decide, by omega, fun _ => ⟨_, 0, rfl, fun i hi j hj => ?_⟩⟩
  have hi3 : i < 3 := hi
  rw [Nat.zero_add]
  match i, hi3 with
  | 0, _ => match j, hj with
    | 0, _ => exact hb.cell 0
    | 1, _ => exact hb.cell 1
    | 2, _ => exact hb.cell 2
    | 3, _ => exact hb.cell 3
    | 4, _ => exact hb.cell 4
    | 5, _ => exact hb.cell 5
    | 6, _ => exact hb.cell 6
    | 7, _ => exact hb.cell 7
  | 1, _ => match j, hj with
    | 0, _ => exact hb.cell 8
    | 1, _ => exact hb.cell 9
    | 2, _ => exact hb.cell 10
    | 3, _ => exact hb.cell 11
    | 4, _ => exact hb.cell 12
    | 5, _ => exact hb.cell 13
    | 6, _ => exact hb.cell 14
    | 7, _ => exact hb.cell 15
  | 2, _ => match j, hj with
    | 0, _ => exact hb.cell 16
    | 1, _ => exact hb.cell 17
    | 2, _ => exact hb.cell 18
    | 3, _ => exact hb.cell 19
    | 4, _ => exact hb.cell 20
    | 5, _ => exact hb.cell 21
    | 6, _ => exact hb.cell 22
    | 7, _ => exact hb.cell 23
theorem two13 {w : World} {v : Value} {a b : CT} {B : Nat} (h : CRow w B v [a, b]) : ∃ g c, v = .slice (some ⟨g, 0, none⟩) 2 c ∧ (w.cell? ⟨g, 8, none⟩ = some (.string b.r) ∧ w.cell? ⟨g, 8 + 1, none⟩ = some (.string b.f) ∧ w.cell? ⟨g, 8 + 2, none⟩ = some (.string b.q) ∧ w.cell? ⟨g, 8 + 3, none⟩ = some (.int .i64 b.t) ∧ w.cell? ⟨g, 8 + 4, none⟩ = some (.int .i64 b.k) ∧ w.cell? ⟨g, 8 + 5, none⟩ = some (.int .i64 b.vk) ∧ w.cell? ⟨g, 8 + 6, none⟩ = some (.int .i64 b.vn) ∧ w.cell? ⟨g, 8 + 7, none⟩ = some (.string b.s)) := by
  rcases h.2 with ⟨_, h0⟩ | ⟨g, cap, cur, rfl, hr⟩
  · cases h0
  · refine ⟨g, cap, rfl, ?_⟩
    have h9 := ct_words h.hc 1 (show [a, b][1]? = some b from rfl)
    simpa using h9
section
variable {W0 W W' : World} {g1 g2 : Nat}
abbrev Al9 (W0 : World) (g1 g2 : Nat) (W : World) : Prop := Hid (Below W0.heap.size W0 W ∧ g1 < W0.heap.size ∧ g2 < W0.heap.size) ∧ (W.cell? ⟨g1, 8, none⟩ = some (.string ⟨#[98]⟩) ∧ W.cell? ⟨g1, 8 + 1, none⟩ = some (.string ⟨#[102]⟩) ∧ W.cell? ⟨g1, 8 + 2, none⟩ = some (.string ⟨#[113]⟩) ∧ W.cell? ⟨g1, 8 + 3, none⟩ = some (.int .i64 1) ∧ W.cell? ⟨g1, 8 + 4, none⟩ = some (.int .i64 1) ∧ W.cell? ⟨g1, 8 + 5, none⟩ = some (.int .i64 1) ∧ W.cell? ⟨g1, 8 + 6, none⟩ = some (.int .i64 0) ∧ W.cell? ⟨g1, 8 + 7, none⟩ = some (.string ⟨#[]⟩)) ∧ (W.cell? ⟨g2, 8, none⟩ = some (.string ⟨#[97]⟩) ∧ W.cell? ⟨g2, 8 + 1, none⟩ = some (.string ⟨#[102]⟩) ∧ W.cell? ⟨g2, 8 + 2, none⟩ = some (.string ⟨#[113]⟩) ∧ W.cell? ⟨g2, 8 + 3, none⟩ = some (.int .i64 1) ∧ W.cell? ⟨g2, 8 + 4, none⟩ = some (.int .i64 1) ∧ W.cell? ⟨g2, 8 + 5, none⟩ = some (.int .i64 1) ∧ W.cell? ⟨g2, 8 + 6, none⟩ = some (.int .i64 0) ∧ W.cell? ⟨g2, 8 + 7, none⟩ = some (.string ⟨#[]⟩))
theorem al9_call (hh : Al9 W0 g1 g2 W) (hb : Below W.heap.size W W') : Al9 W0 g1 g2 W' := by
  obtain ⟨hh, ⟨a0, a1, a2, a3, a4, a5, a6, a7⟩, ⟨b0, b1, b2, b3, b4, b5, b6, b7⟩⟩ := hh
  obtain ⟨hbw, h1, h2⟩ := hh.out
  have hz := hbw.size
  have hc : ∀ b o, b < W0.heap.size → W'.cell? ⟨b, o, none⟩ = W.cell? ⟨b, o, none⟩ := fun b o h => hb.cell (p := ⟨b, o, none⟩) (show b < W.heap.size by omega)
  refine ⟨hid ⟨hbw.trans (hb.mono hz), h1, h2⟩, ⟨?_, ?_, ?_, ?_, ?_, ?_, ?_, ?_⟩, ⟨?_, ?_, ?_, ?_, ?_, ?_, ?_, ?_⟩⟩ <;> (rw [hc _ _ (by omega)]; assumption)
theorem al9_drew (hh : Al9 W0 g1 g2 W) : Al9 W0 g1 g2 W.drew := al9_call hh (Below.refl _ _).drew
end
set_option maxRecDepth 100000 in
set_option maxHeartbeats 16000000 in
theorem alive13_any (w : World) (hL : LaidU w) : Calls Tryd.prog 62 #[] w fun e w' => e = .returned (.bool true) ∧ Below w.heap.size w w' := by
  have mixed : Tryd.prog.follows .mixedOrders = true := by kernel_rfl
  have HP := hid put13_any
  have HL := hid hL
  clear hL
  go_enter Tryd.func62, Tryd.ntmps62
  go_upto_region 2 with (first
    | (go_at_call 131; refine (HP.out _ _ _).mono ?_; rintro e w5 ⟨rfl, hb5⟩))
  rename_i p1 hp1 p2 hp2 K9 a9
  have HW : Hid (ClA (w5.alloc (.cells #[.string ⟨#[97]⟩, .string ⟨#[102]⟩, .string ⟨#[113]⟩, .int .i64 2, .int .i64 1, .int .i64 1, .int .i64 0, .string ⟨#[]⟩, .string ⟨#[97]⟩, .string ⟨#[102]⟩, .string ⟨#[113]⟩, .int .i64 1, .int .i64 1, .int .i64 1, .int .i64 0, .string ⟨#[]⟩, .string ⟨#[98]⟩, .string ⟨#[102]⟩, .string ⟨#[113]⟩, .int .i64 1, .int .i64 1, .int .i64 1, .int .i64 0, .string ⟨#[]⟩] 28)) (.slice (some ⟨w5.heap.size, 0, none⟩) 3 3) al13 ∧ Below w.heap.size w (w5.alloc (.cells #[.string ⟨#[97]⟩, .string ⟨#[102]⟩, .string ⟨#[113]⟩, .int .i64 2, .int .i64 1, .int .i64 1, .int .i64 0, .string ⟨#[]⟩, .string ⟨#[97]⟩, .string ⟨#[102]⟩, .string ⟨#[113]⟩, .int .i64 1, .int .i64 1, .int .i64 1, .int .i64 0, .string ⟨#[]⟩, .string ⟨#[98]⟩, .string ⟨#[102]⟩, .string ⟨#[113]⟩, .int .i64 1, .int .i64 1, .int .i64 1, .int .i64 0, .string ⟨#[]⟩] 28))) := by
    have h3 := hp1.trans (hp2.mono hp1.size)
    have h4 := h3.trans (hb5.mono h3.size)
    exact ⟨three13 w5, h4.trans ((below_new w5 _).mono h4.size)⟩
  obtain ⟨b, hb⟩ : ∃ b, w5.heap.size = b := ⟨_, rfl⟩
  rw [hb] at HW ⊢
  clear hb hp1 hp2 hb5
  generalize w5.alloc (.cells #[.string ⟨#[97]⟩, .string ⟨#[102]⟩, .string ⟨#[113]⟩, .int .i64 2, .int .i64 1, .int .i64 1, .int .i64 0, .string ⟨#[]⟩, .string ⟨#[97]⟩, .string ⟨#[102]⟩, .string ⟨#[113]⟩, .int .i64 1, .int .i64 1, .int .i64 1, .int .i64 0, .string ⟨#[]⟩, .string ⟨#[98]⟩, .string ⟨#[102]⟩, .string ⟨#[113]⟩, .int .i64 1, .int .i64 1, .int .i64 1, .int .i64 0, .string ⟨#[]⟩] 28) = W1 at HW ⊢
  have hA1 : Calls Tryd.prog 69 #[.agg #[.slice none 0 0, .string ⟨#[]⟩, .string ⟨#[]⟩, .int .i64 0, .int .i64 0, .int .i64 1, .int .i64 0], .slice (some ⟨b, 0, none⟩) 3 3] W1 fun e w' => ∃ v', e = .returned v' ∧ CRow w' W1.heap.size v' [pt13 97 2, pt13 98 1] ∧ Below W1.heap.size W1 w' := by
    have h9 := apply13_any (.slice none 0 0) _ fv13 al13 (fun x hx => by cases hx) (by show 0 ≤ _; omega) (by show 3 ≤ _; omega) W1 (txa_nil13 W1) HW.out.1 (HL.out.below HW.out.2)
    rw [ap_v13] at h9
    exact h9
  have HA1 := hid hA1
  clear hA1
  go_upto_region 3 with (first | (go_at_call 69; refine HA1.out.mono ?_; rintro e W2 ⟨v2, rfl, hr2, hb2⟩; obtain ⟨g1, c1, rfl, hg1⟩ := two13 hr2))
  have HB2 := hid (HW.out.2.trans (hb2.mono HW.out.2.size))
  have hA2 : Calls Tryd.prog 69 #[.agg #[.slice none 0 0, .string ⟨#[]⟩, .string ⟨#[]⟩, .int .i64 0, .int .i64 0, .int .i64 0, .int .i64 1], .slice (some ⟨b, 0, none⟩) 3 3] W2 fun e w' => ∃ v', e = .returned v' ∧ CRow w' W2.heap.size v' [pt13 97 2, pt13 97 1] ∧ Below W2.heap.size W2 w' := by
    have h9 := apply13_any (.slice none 0 0) _ fr13 al13 (fun x hx => by cases hx) (by show 0 ≤ _; omega) (by show 3 ≤ _; omega) W2 (txa_nil13 W2) (HW.out.1.below hb2) (HL.out.below HB2.out)
    rw [ap_r13] at h9
    exact h9
  have HA2 := hid hA2
  have HG1 := hid hg1
  clear hA2 hr2 hb2 HA1 HW hg1
  go_upto_region 4 with (first | (go_at_call 69; refine HA2.out.mono ?_; rintro e W3 ⟨v3, rfl, hr3, hb3⟩; obtain ⟨g2, c2, rfl, hg2⟩ := two13 hr3))
  have HB3 := hid (HB2.out.trans (hb3.mono HB2.out.size))
  have HT : Hid (Al9 W3 g1 g2 W3) := by
    obtain ⟨a0, a1, a2, a3, a4, a5, a6, a7⟩ := HG1.out
    have hl : g1 < W2.heap.size := cell_lt a0
    have hc : ∀ o, W3.cell? ⟨g1, o, none⟩ = W2.cell? ⟨g1, o, none⟩ := fun o => hb3.cell (p := ⟨g1, o, none⟩) hl
    exact ⟨hid ⟨Below.refl _ _, by have := hb3.size; omega, cell_lt hg2.1⟩, ⟨(hc _).trans a0, (hc _).trans a1, (hc _).trans a2, (hc _).trans a3, (hc _).trans a4, (hc _).trans a5, (hc _).trans a6, (hc _).trans a7⟩, hg2⟩
  have HR0 : Hid (∀ W, Al9 W3 g1 g2 W → Calls Tryd.prog 65 #[.agg #[.slice none 0 0, .string ⟨#[]⟩, .string ⟨#[]⟩, .int .i64 0, .int .i64 0, .int .i64 0, .int .i64 0]] W fun e w' => e = .returned (.bool true) ∧ Below W.heap.size W w') := fun W hW => right13_any (.slice none 0 0) f013 (fun x hx => by cases hx) W (txa_nil13 W) (HL.out.below (HB3.out.trans (hW.1.out.1.mono HB3.out.size)))
  have HRm : Hid (∀ W, Al9 W3 g1 g2 W → Calls Tryd.prog 65 #[.agg #[.slice none 0 0, .string ⟨#[]⟩, .string ⟨#[]⟩, .int .i64 0, .int .i64 0, .int .i64 0, .int .i64 (-1)]] W fun e w' => e = .returned (.bool false) ∧ Below W.heap.size W w') := fun W hW => right13_any (.slice none 0 0) fm13 (fun x hx => by cases hx) W (txa_nil13 W) (HL.out.below (HB3.out.trans (hW.1.out.1.mono HB3.out.size)))
  have HNw : Hid (∀ W, Calls Tryd.prog 72 #[.agg #[.slice none 0 0, .string ⟨#[]⟩, .string ⟨#[]⟩, .int .i64 0, .int .i64 0, .int .i64 0, .int .i64 0]] W fun e w' => ∃ sb, e = .returned (.pointer (some ⟨sb, 0, none⟩)) ∧ Below W.heap.size W w') := fun W => (new13_any (.slice none 0 0) f013 (by show 0 ≤ _; omega) W (txa_nil13 W)).mono fun e w' ⟨sb, u, he, h9⟩ => ⟨sb, he, h9.out.2.2.2.1⟩
  clear hr3 hb3 hg2 HA2 HG1 HL
  obtain ⟨-, ⟨a0, a1, a2, a3, a4, a5, a6, a7⟩, ⟨b0, b1, b2, b3, b4, b5, b6, b7⟩⟩ := HT.out
  refine wp_region_held_drew (S := (fun W => Hid (Below W3.heap.size W3 W ∧ g1 < W3.heap.size ∧ g2 < W3.heap.size) ∧ (W.cell? ⟨g1, 8, none⟩ = some (.string ⟨#[98]⟩) ∧ W.cell? ⟨g1, 8 + 1, none⟩ = some (.string ⟨#[102]⟩) ∧ W.cell? ⟨g1, 8 + 2, none⟩ = some (.string ⟨#[113]⟩) ∧ W.cell? ⟨g1, 8 + 3, none⟩ = some (.int .i64 1) ∧ W.cell? ⟨g1, 8 + 4, none⟩ = some (.int .i64 1) ∧ W.cell? ⟨g1, 8 + 5, none⟩ = some (.int .i64 1) ∧ W.cell? ⟨g1, 8 + 6, none⟩ = some (.int .i64 0) ∧ W.cell? ⟨g1, 8 + 7, none⟩ = some (.string ⟨#[]⟩)) ∧ (W.cell? ⟨g2, 8, none⟩ = some (.string ⟨#[97]⟩) ∧ W.cell? ⟨g2, 8 + 1, none⟩ = some (.string ⟨#[102]⟩) ∧ W.cell? ⟨g2, 8 + 2, none⟩ = some (.string ⟨#[113]⟩) ∧ W.cell? ⟨g2, 8 + 3, none⟩ = some (.int .i64 1) ∧ W.cell? ⟨g2, 8 + 4, none⟩ = some (.int .i64 1) ∧ W.cell? ⟨g2, 8 + 5, none⟩ = some (.int .i64 1) ∧ W.cell? ⟨g2, 8 + 6, none⟩ = some (.int .i64 0) ∧ W.cell? ⟨g2, 8 + 7, none⟩ = some (.string ⟨#[]⟩)))) (by kernel_rfl) ?_ (fun hHeld => ?_)
  (exact al9_drew HT.out)
  (refine wpAnyH_take (i := 0) (v := ?_) rfl (by kernel_rfl) (by kernel_rfl) (by kernel_rfl) (fun _ _ _ h => h) (Or.inl ⟨by kernel_rfl, ?_⟩) (by assumption) ?_; rotate_left; · (intro w hSw; (try dsimp only at hSw); go_simp; first | done | with_reducible rfl))
  (try simp only [Act.put]); (try simp only [List.getElem_toArray]); (try simp only [List.getElem_cons_succ]); (try simp only [List.getElem_cons_zero]); (try simp only [List.setIfInBounds_toArray]); (try simp only [List.set_cons_succ]); (try simp only [List.set_cons_zero])
  (refine wpAnyH_take (i := 1) (v := ?_) rfl (by kernel_rfl) (by kernel_rfl) (by kernel_rfl) (fun _ _ _ h => h) (Or.inl ⟨by kernel_rfl, ?_⟩) (by assumption) ?_; rotate_left; · (intro w hSw; (try dsimp only at hSw); go_simp; first | done | with_reducible rfl))
  (try simp only [Act.put]); (try simp only [List.getElem_toArray]); (try simp only [List.getElem_cons_succ]); (try simp only [List.getElem_cons_zero]); (try simp only [List.setIfInBounds_toArray]); (try simp only [List.set_cons_succ]); (try simp only [List.set_cons_zero])
  (refine wpAnyH_take (i := 2) (v := ?_) rfl (by kernel_rfl) (by kernel_rfl) (by kernel_rfl) (fun _ _ _ h => h) (Or.inl ⟨by kernel_rfl, ?_⟩) (by assumption) ?_; rotate_left; · (intro w hSw; (try dsimp only at hSw); go_simp; first | done | with_reducible rfl))
  (try simp only [Act.put]); (try simp only [List.getElem_toArray]); (try simp only [List.getElem_cons_succ]); (try simp only [List.getElem_cons_zero]); (try simp only [List.setIfInBounds_toArray]); (try simp only [List.set_cons_succ]); (try simp only [List.set_cons_zero])
  (refine wpAnyH_take (i := 3) (v := ?_) rfl (by kernel_rfl) (by kernel_rfl) (by kernel_rfl) (fun _ _ _ h => h) (Or.inl ⟨by kernel_rfl, ?_⟩) (by assumption) ?_; rotate_left; · (intro w hSw; (try dsimp only at hSw); go_simp; first | done | with_reducible rfl))
  (try simp only [Act.put]); (try simp only [List.getElem_toArray]); (try simp only [List.getElem_cons_succ]); (try simp only [List.getElem_cons_zero]); (try simp only [List.setIfInBounds_toArray]); (try simp only [List.set_cons_succ]); (try simp only [List.set_cons_zero])
  (refine wpAnyH_take (i := 4) (v := ?_) rfl (by kernel_rfl) (by kernel_rfl) (by kernel_rfl) (fun _ _ _ h => h) (Or.inl ⟨by kernel_rfl, ?_⟩) (by assumption) ?_; rotate_left; · (intro w hSw; (try dsimp only at hSw); go_simp; first | done | with_reducible rfl))
  (try simp only [Act.put]); (try simp only [List.getElem_toArray]); (try simp only [List.getElem_cons_succ]); (try simp only [List.getElem_cons_zero]); (try simp only [List.setIfInBounds_toArray]); (try simp only [List.set_cons_succ]); (try simp only [List.set_cons_zero])
  (refine wpAnyH_take (i := 5) (v := ?_) rfl (by kernel_rfl) (by kernel_rfl) (by kernel_rfl) (fun _ _ _ h => h) (Or.inl ⟨by kernel_rfl, ?_⟩) (by assumption) ?_; rotate_left; · (intro w hSw; (try dsimp only at hSw); go_simp; first | done | with_reducible rfl))
  (try simp only [Act.put]); (try simp only [List.getElem_toArray]); (try simp only [List.getElem_cons_succ]); (try simp only [List.getElem_cons_zero]); (try simp only [List.setIfInBounds_toArray]); (try simp only [List.set_cons_succ]); (try simp only [List.set_cons_zero])
  (refine wpAnyH_take (i := 6) (v := ?_) rfl (by kernel_rfl) (by kernel_rfl) (by kernel_rfl) (fun _ _ _ h => h) (Or.inl ⟨by kernel_rfl, ?_⟩) (by assumption) ?_; rotate_left; · (intro w hSw; (try dsimp only at hSw); go_simp; first | done | with_reducible rfl))
  (try simp only [Act.put]); (try simp only [List.getElem_toArray]); (try simp only [List.getElem_cons_succ]); (try simp only [List.getElem_cons_zero]); (try simp only [List.setIfInBounds_toArray]); (try simp only [List.set_cons_succ]); (try simp only [List.set_cons_zero])
  (refine wpAnyH_ready (rs := [7]) (by kernel_rfl) (by simp) (AllReadyH.cons rfl (fun K hK => ?_) AllReadyH.nil); go_simp; (go_at_call 131; refine (HP.out _ _ _).mono ?_; rintro e w6 ⟨rfl, hb6⟩); refine hK.out _ _ ?_ (fun hHeld => ?_))
  · exact al9_call (by assumption) hb6
  clear hK K
  (try simp only [Act.put]); (try simp only [List.getElem_toArray]); (try simp only [List.getElem_cons_succ]); (try simp only [List.getElem_cons_zero]); (try simp only [List.setIfInBounds_toArray]); (try simp only [List.set_cons_succ]); (try simp only [List.set_cons_zero])
  (refine wpAnyH_take (i := 8) (v := ?_) rfl (by kernel_rfl) (by kernel_rfl) (by kernel_rfl) (fun _ _ _ h => h) (Or.inl ⟨by kernel_rfl, ?_⟩) (by assumption) ?_; rotate_left; · (intro w hSw; (try dsimp only at hSw); go_simp; first | done | with_reducible rfl))
  (try simp only [Act.put]); (try simp only [List.getElem_toArray]); (try simp only [List.getElem_cons_succ]); (try simp only [List.getElem_cons_zero]); (try simp only [List.setIfInBounds_toArray]); (try simp only [List.set_cons_succ]); (try simp only [List.set_cons_zero])
  (refine wpAnyH_take (i := 9) (v := ?_) rfl (by kernel_rfl) (by kernel_rfl) (by kernel_rfl) (fun _ _ _ h => h) (Or.inl ⟨by kernel_rfl, ?_⟩) (by assumption) ?_; rotate_left; · (intro w hSw; (try dsimp only at hSw); go_simp; first | done | with_reducible rfl))
  (try simp only [Act.put]); (try simp only [List.getElem_toArray]); (try simp only [List.getElem_cons_succ]); (try simp only [List.getElem_cons_zero]); (try simp only [List.setIfInBounds_toArray]); (try simp only [List.set_cons_succ]); (try simp only [List.set_cons_zero])
  (refine wpAnyH_take (i := 10) (v := ?_) rfl (by kernel_rfl) (by kernel_rfl) (by kernel_rfl) (fun _ _ _ h => h) (Or.inl ⟨by kernel_rfl, ?_⟩) (by assumption) ?_; rotate_left; · (intro w hSw; (try dsimp only at hSw); go_simp; first | done | with_reducible rfl))
  (try simp only [Act.put]); (try simp only [List.getElem_toArray]); (try simp only [List.getElem_cons_succ]); (try simp only [List.getElem_cons_zero]); (try simp only [List.setIfInBounds_toArray]); (try simp only [List.set_cons_succ]); (try simp only [List.set_cons_zero])
  (refine wpAnyH_take (i := 11) (v := ?_) rfl (by kernel_rfl) (by kernel_rfl) (by kernel_rfl) (fun _ _ _ h => h) (Or.inl ⟨by kernel_rfl, ?_⟩) (by assumption) ?_; rotate_left; · (intro w hSw; (try dsimp only at hSw); go_simp; first | done | with_reducible rfl))
  (try simp only [Act.put]); (try simp only [List.getElem_toArray]); (try simp only [List.getElem_cons_succ]); (try simp only [List.getElem_cons_zero]); (try simp only [List.setIfInBounds_toArray]); (try simp only [List.set_cons_succ]); (try simp only [List.set_cons_zero])
  (refine wpAnyH_take (i := 12) (v := ?_) rfl (by kernel_rfl) (by kernel_rfl) (by kernel_rfl) (fun _ _ _ h => h) (Or.inl ⟨by kernel_rfl, ?_⟩) (by assumption) ?_; rotate_left; · (intro w hSw; (try dsimp only at hSw); go_simp; first | done | with_reducible rfl))
  (try simp only [Act.put]); (try simp only [List.getElem_toArray]); (try simp only [List.getElem_cons_succ]); (try simp only [List.getElem_cons_zero]); (try simp only [List.setIfInBounds_toArray]); (try simp only [List.set_cons_succ]); (try simp only [List.set_cons_zero])
  (refine wpAnyH_take (i := 13) (v := ?_) rfl (by kernel_rfl) (by kernel_rfl) (by kernel_rfl) (fun _ _ _ h => h) (Or.inl ⟨by kernel_rfl, ?_⟩) (by assumption) ?_; rotate_left; · (intro w hSw; (try dsimp only at hSw); go_simp; first | done | with_reducible rfl))
  (try simp only [Act.put]); (try simp only [List.getElem_toArray]); (try simp only [List.getElem_cons_succ]); (try simp only [List.getElem_cons_zero]); (try simp only [List.setIfInBounds_toArray]); (try simp only [List.set_cons_succ]); (try simp only [List.set_cons_zero])
  (refine wpAnyH_take (i := 14) (v := ?_) rfl (by kernel_rfl) (by kernel_rfl) (by kernel_rfl) (fun _ _ _ h => h) (Or.inl ⟨by kernel_rfl, ?_⟩) (by assumption) ?_; rotate_left; · (intro w hSw; (try dsimp only at hSw); go_simp; first | done | with_reducible rfl))
  (try simp only [Act.put]); (try simp only [List.getElem_toArray]); (try simp only [List.getElem_cons_succ]); (try simp only [List.getElem_cons_zero]); (try simp only [List.setIfInBounds_toArray]); (try simp only [List.set_cons_succ]); (try simp only [List.set_cons_zero])
  (refine wpAnyH_take (i := 15) (v := ?_) rfl (by kernel_rfl) (by kernel_rfl) (by kernel_rfl) (fun _ _ _ h => h) (Or.inl ⟨by kernel_rfl, ?_⟩) (by assumption) ?_; rotate_left; · (intro w hSw; (try dsimp only at hSw); go_simp; first | done | with_reducible rfl))
  (try simp only [Act.put]); (try simp only [List.getElem_toArray]); (try simp only [List.getElem_cons_succ]); (try simp only [List.getElem_cons_zero]); (try simp only [List.setIfInBounds_toArray]); (try simp only [List.set_cons_succ]); (try simp only [List.set_cons_zero])
  (refine wpAnyH_take (i := 16) (v := ?_) rfl (by kernel_rfl) (by kernel_rfl) (by kernel_rfl) (fun _ _ _ h => h) (Or.inl ⟨by kernel_rfl, ?_⟩) (by assumption) ?_; rotate_left; · (intro w hSw; (try dsimp only at hSw); go_simp; first | done | with_reducible rfl))
  (try simp only [Act.put]); (try simp only [List.getElem_toArray]); (try simp only [List.getElem_cons_succ]); (try simp only [List.getElem_cons_zero]); (try simp only [List.setIfInBounds_toArray]); (try simp only [List.set_cons_succ]); (try simp only [List.set_cons_zero])
  (refine wpAnyH_take (i := 17) (v := ?_) rfl (by kernel_rfl) (by kernel_rfl) (by kernel_rfl) (fun _ _ _ h => h) (Or.inl ⟨by kernel_rfl, ?_⟩) (by assumption) ?_; rotate_left; · (intro w hSw; (try dsimp only at hSw); go_simp; first | done | with_reducible rfl))
  (try simp only [Act.put]); (try simp only [List.getElem_toArray]); (try simp only [List.getElem_cons_succ]); (try simp only [List.getElem_cons_zero]); (try simp only [List.setIfInBounds_toArray]); (try simp only [List.set_cons_succ]); (try simp only [List.set_cons_zero])
  (refine wpAnyH_take (i := 18) (v := ?_) rfl (by kernel_rfl) (by kernel_rfl) (by kernel_rfl) (fun _ _ _ h => h) (Or.inl ⟨by kernel_rfl, ?_⟩) (by assumption) ?_; rotate_left; · (intro w hSw; (try dsimp only at hSw); go_simp; first | done | with_reducible rfl))
  (try simp only [Act.put]); (try simp only [List.getElem_toArray]); (try simp only [List.getElem_cons_succ]); (try simp only [List.getElem_cons_zero]); (try simp only [List.setIfInBounds_toArray]); (try simp only [List.set_cons_succ]); (try simp only [List.set_cons_zero])
  (refine wpAnyH_ready (rs := [19]) (by kernel_rfl) (by simp) (AllReadyH.cons rfl (fun K hK => ?_) AllReadyH.nil); go_simp; (go_at_call 131; refine (HP.out _ _ _).mono ?_; rintro e w7 ⟨rfl, hb7⟩); refine hK.out _ _ ?_ (fun hHeld => ?_))
  · exact al9_call (by assumption) hb7
  clear hK K
  (try simp only [Act.put]); (try simp only [List.getElem_toArray]); (try simp only [List.getElem_cons_succ]); (try simp only [List.getElem_cons_zero]); (try simp only [List.setIfInBounds_toArray]); (try simp only [List.set_cons_succ]); (try simp only [List.set_cons_zero])
  (refine wpAnyH_take (i := 20) (v := ?_) rfl (by kernel_rfl) (by kernel_rfl) (by kernel_rfl) (fun _ _ _ h => h) (Or.inl ⟨by kernel_rfl, ?_⟩) (by assumption) ?_; rotate_left; · (intro w hSw; (try dsimp only at hSw); go_simp; first | done | with_reducible rfl))
  (try simp only [Act.put]); (try simp only [List.getElem_toArray]); (try simp only [List.getElem_cons_succ]); (try simp only [List.getElem_cons_zero]); (try simp only [List.setIfInBounds_toArray]); (try simp only [List.set_cons_succ]); (try simp only [List.set_cons_zero])
  (refine wpAnyH_take (i := 21) (v := ?_) rfl (by kernel_rfl) (by kernel_rfl) (by kernel_rfl) (fun _ _ _ h => h) (Or.inl ⟨by kernel_rfl, ?_⟩) (by assumption) ?_; rotate_left; · (intro w hSw; (try dsimp only at hSw); go_simp; first | done | with_reducible rfl))
  (try simp only [Act.put]); (try simp only [List.getElem_toArray]); (try simp only [List.getElem_cons_succ]); (try simp only [List.getElem_cons_zero]); (try simp only [List.setIfInBounds_toArray]); (try simp only [List.set_cons_succ]); (try simp only [List.set_cons_zero])
  (refine wpAnyH_take (i := 22) (v := ?_) rfl (by kernel_rfl) (by kernel_rfl) (by kernel_rfl) (fun _ _ _ h => h) (Or.inl ⟨by kernel_rfl, ?_⟩) (by assumption) ?_; rotate_left; · (intro w hSw; (try dsimp only at hSw); go_simp; first | done | with_reducible rfl))
  (try simp only [Act.put]); (try simp only [List.getElem_toArray]); (try simp only [List.getElem_cons_succ]); (try simp only [List.getElem_cons_zero]); (try simp only [List.setIfInBounds_toArray]); (try simp only [List.set_cons_succ]); (try simp only [List.set_cons_zero])
  (refine wpAnyH_take (i := 23) (v := ?_) rfl (by kernel_rfl) (by kernel_rfl) (by kernel_rfl) (fun _ _ _ h => h) (Or.inl ⟨by kernel_rfl, ?_⟩) (by assumption) ?_; rotate_left; · (intro w hSw; (try dsimp only at hSw); go_simp; first | done | with_reducible rfl))
  (try simp only [Act.put]); (try simp only [List.getElem_toArray]); (try simp only [List.getElem_cons_succ]); (try simp only [List.getElem_cons_zero]); (try simp only [List.setIfInBounds_toArray]); (try simp only [List.set_cons_succ]); (try simp only [List.set_cons_zero])
  (refine wpAnyH_ready (rs := [24]) (by kernel_rfl) (by simp) (AllReadyH.cons rfl (fun K hK => ?_) AllReadyH.nil); go_simp; (go_at_call 65; refine (HR0.out _ (by assumption)).mono ?_; rintro e w8 ⟨rfl, hb8⟩); refine hK.out _ _ ?_ (fun hHeld => ?_))
  · exact al9_call (by assumption) hb8
  clear hK K
  (try simp only [Act.put]); (try simp only [List.getElem_toArray]); (try simp only [List.getElem_cons_succ]); (try simp only [List.getElem_cons_zero]); (try simp only [List.setIfInBounds_toArray]); (try simp only [List.set_cons_succ]); (try simp only [List.set_cons_zero])
  (refine wpAnyH_take (i := 25) (v := ?_) rfl (by kernel_rfl) (by kernel_rfl) (by kernel_rfl) (fun _ _ _ h => h) (Or.inl ⟨by kernel_rfl, ?_⟩) (by assumption) ?_; rotate_left; · (intro w hSw; (try dsimp only at hSw); go_simp; first | done | with_reducible rfl))
  (try simp only [Act.put]); (try simp only [List.getElem_toArray]); (try simp only [List.getElem_cons_succ]); (try simp only [List.getElem_cons_zero]); (try simp only [List.setIfInBounds_toArray]); (try simp only [List.set_cons_succ]); (try simp only [List.set_cons_zero])
  (refine wpAnyH_take (i := 26) (v := ?_) rfl (by kernel_rfl) (by kernel_rfl) (by kernel_rfl) (fun _ _ _ h => h) (Or.inl ⟨by kernel_rfl, ?_⟩) (by assumption) ?_; rotate_left; · (intro w hSw; (try dsimp only at hSw); go_simp; first | done | with_reducible rfl))
  (try simp only [Act.put]); (try simp only [List.getElem_toArray]); (try simp only [List.getElem_cons_succ]); (try simp only [List.getElem_cons_zero]); (try simp only [List.setIfInBounds_toArray]); (try simp only [List.set_cons_succ]); (try simp only [List.set_cons_zero])
  (refine wpAnyH_take (i := 27) (v := ?_) rfl (by kernel_rfl) (by kernel_rfl) (by kernel_rfl) (fun _ _ _ h => h) (Or.inl ⟨by kernel_rfl, ?_⟩) (by assumption) ?_; rotate_left; · (intro w hSw; (try dsimp only at hSw); go_simp; first | done | with_reducible rfl))
  (try simp only [Act.put]); (try simp only [List.getElem_toArray]); (try simp only [List.getElem_cons_succ]); (try simp only [List.getElem_cons_zero]); (try simp only [List.setIfInBounds_toArray]); (try simp only [List.set_cons_succ]); (try simp only [List.set_cons_zero])
  (refine wpAnyH_ready (rs := [28]) (by kernel_rfl) (by simp) (AllReadyH.cons rfl (fun K hK => ?_) AllReadyH.nil); go_simp; (go_at_call 65; refine (HRm.out _ (by assumption)).mono ?_; rintro e w9 ⟨rfl, hb9⟩); refine hK.out _ _ ?_ (fun hHeld => ?_))
  · exact al9_call (by assumption) hb9
  clear hK K
  (try simp only [Act.put]); (try simp only [List.getElem_toArray]); (try simp only [List.getElem_cons_succ]); (try simp only [List.getElem_cons_zero]); (try simp only [List.setIfInBounds_toArray]); (try simp only [List.set_cons_succ]); (try simp only [List.set_cons_zero])
  (refine wpAnyH_take (i := 29) (v := ?_) rfl (by kernel_rfl) (by kernel_rfl) (by kernel_rfl) (fun _ _ _ h => h) (Or.inl ⟨by kernel_rfl, ?_⟩) (by assumption) ?_; rotate_left; · (intro w hSw; (try dsimp only at hSw); go_simp; first | done | with_reducible rfl))
  (try simp only [Act.put]); (try simp only [List.getElem_toArray]); (try simp only [List.getElem_cons_succ]); (try simp only [List.getElem_cons_zero]); (try simp only [List.setIfInBounds_toArray]); (try simp only [List.set_cons_succ]); (try simp only [List.set_cons_zero])
  (refine wpAnyH_take (i := 30) (v := ?_) rfl (by kernel_rfl) (by kernel_rfl) (by kernel_rfl) (fun _ _ _ h => h) (Or.inl ⟨by kernel_rfl, ?_⟩) (by assumption) ?_; rotate_left; · (intro w hSw; (try dsimp only at hSw); go_simp; first | done | with_reducible rfl))
  (try simp only [Act.put]); (try simp only [List.getElem_toArray]); (try simp only [List.getElem_cons_succ]); (try simp only [List.getElem_cons_zero]); (try simp only [List.setIfInBounds_toArray]); (try simp only [List.set_cons_succ]); (try simp only [List.set_cons_zero])
  (refine wpAnyH_take (i := 31) (v := ?_) rfl (by kernel_rfl) (by kernel_rfl) (by kernel_rfl) (fun _ _ _ h => h) (Or.inl ⟨by kernel_rfl, ?_⟩) (by assumption) ?_; rotate_left; · (intro w hSw; (try dsimp only at hSw); go_simp; first | done | with_reducible rfl))
  (try simp only [Act.put]); (try simp only [List.getElem_toArray]); (try simp only [List.getElem_cons_succ]); (try simp only [List.getElem_cons_zero]); (try simp only [List.setIfInBounds_toArray]); (try simp only [List.set_cons_succ]); (try simp only [List.set_cons_zero])
  (refine wpAnyH_take (i := 32) (v := ?_) rfl (by kernel_rfl) (by kernel_rfl) (by kernel_rfl) (fun _ _ _ h => h) (Or.inl ⟨by kernel_rfl, ?_⟩) (by assumption) ?_; rotate_left; · (intro w hSw; (try dsimp only at hSw); go_simp; first | done | with_reducible rfl))
  (try simp only [Act.put]); (try simp only [List.getElem_toArray]); (try simp only [List.getElem_cons_succ]); (try simp only [List.getElem_cons_zero]); (try simp only [List.setIfInBounds_toArray]); (try simp only [List.set_cons_succ]); (try simp only [List.set_cons_zero])
  (refine wpAnyH_ready (rs := [33]) (by kernel_rfl) (by simp) (AllReadyH.cons rfl (fun K hK => ?_) AllReadyH.nil); go_simp; (go_at_call 72; refine (HNw.out _).mono ?_; rintro e w10 ⟨sb, rfl, hb10⟩); refine hK.out _ _ ?_ (fun hHeld => ?_))
  · exact al9_call (by assumption) hb10
  clear hK K
  (try simp only [Act.put]); (try simp only [List.getElem_toArray]); (try simp only [List.getElem_cons_succ]); (try simp only [List.getElem_cons_zero]); (try simp only [List.setIfInBounds_toArray]); (try simp only [List.set_cons_succ]); (try simp only [List.set_cons_zero])
  (refine wpAnyH_take (i := 34) (v := ?_) rfl (by kernel_rfl) (by kernel_rfl) (by kernel_rfl) (fun _ _ _ h => h) (Or.inl ⟨by kernel_rfl, ?_⟩) (by assumption) ?_; rotate_left; · (intro w hSw; (try dsimp only at hSw); go_simp; first | done | with_reducible rfl))
  (try simp only [Act.put]); (try simp only [List.getElem_toArray]); (try simp only [List.getElem_cons_succ]); (try simp only [List.getElem_cons_zero]); (try simp only [List.setIfInBounds_toArray]); (try simp only [List.set_cons_succ]); (try simp only [List.set_cons_zero])
  (refine wpAnyH_take (i := 35) (v := ?_) rfl (by kernel_rfl) (by kernel_rfl) (by kernel_rfl) (fun _ _ _ h => h) (Or.inl ⟨by kernel_rfl, ?_⟩) (by assumption) ?_; rotate_left; · (intro w hSw; (try dsimp only at hSw); go_simp; first | done | with_reducible rfl))
  (try simp only [Act.put]); (try simp only [List.getElem_toArray]); (try simp only [List.getElem_cons_succ]); (try simp only [List.getElem_cons_zero]); (try simp only [List.setIfInBounds_toArray]); (try simp only [List.set_cons_succ]); (try simp only [List.set_cons_zero])
  (refine wpAnyH_take (i := 36) (v := ?_) rfl (by kernel_rfl) (by kernel_rfl) (by kernel_rfl) (fun _ _ _ h => h) (Or.inl ⟨by kernel_rfl, ?_⟩) (by assumption) ?_; rotate_left; · (intro w hSw; (try dsimp only at hSw); go_simp; first | done | with_reducible rfl))
  (try simp only [Act.put]); (try simp only [List.getElem_toArray]); (try simp only [List.getElem_cons_succ]); (try simp only [List.getElem_cons_zero]); (try simp only [List.setIfInBounds_toArray]); (try simp only [List.set_cons_succ]); (try simp only [List.set_cons_zero])
  refine wpAnyH_done (by kernel_rfl) ?_ _
  have H9 := hid hHeld.1.out.1
  clear hHeld HT
  go_wp2
  go_ret
  exact ⟨rfl, HB3.out.trans (H9.out.mono HB3.out.size)⟩
end Go.Proofs.YtgfkobfkncpmoaaDoor
