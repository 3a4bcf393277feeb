/- The statements' fixed cells: alive. Conditions: the tables of utf8 read as they are laid. -/
import Derived.Test.YtpjkhholpbfbpaaDoorIB
import Derived.Deep.RegionHeld3
namespace Go.Proofs.YtpjkhholpbfbpaaDoor
open Go.RowKit

abbrev AlS (W0 : World) (rb : Nat) (W : World) : Prop := Hid (Below W0.heap.size W0 W ∧ rb < W0.heap.size) ∧ W.cell? ⟨rb, 0, none⟩ = some (.string ⟨#[114]⟩) ∧ W.cell? ⟨rb, 1, none⟩ = some (.string ⟨#[102]⟩) ∧ W.cell? ⟨rb, 2, none⟩ = some (.string ⟨#[113]⟩) ∧ W.cell? ⟨rb, 3, none⟩ = some (.int .i64 3) ∧ W.cell? ⟨rb, 4, none⟩ = some (.int .i64 3) ∧ W.cell? ⟨rb, 5, none⟩ = some (.int .i64 0) ∧ W.cell? ⟨rb, 6, none⟩ = some (.int .i64 0) ∧ W.cell? ⟨rb, 7, none⟩ = some (.string ⟨#[]⟩)
abbrev AlT (W0 : World) (g vb : Nat) (W : World) : Prop := Hid (Below W0.heap.size W0 W ∧ g < W0.heap.size ∧ vb < W0.heap.size) ∧ W.cell? ⟨g, 0, none⟩ = some (.string ⟨#[114]⟩) ∧ W.cell? ⟨g, 1, none⟩ = some (.string ⟨#[102]⟩) ∧ W.cell? ⟨g, 2, none⟩ = some (.string ⟨#[113]⟩) ∧ W.cell? ⟨g, 3, none⟩ = some (.int .i64 5) ∧ W.cell? ⟨g, 4, none⟩ = some (.int .i64 1) ∧ W.cell? ⟨g, 5, none⟩ = some (.int .i64 1) ∧ W.cell? ⟨g, 6, none⟩ = some (.int .i64 5) ∧ W.cell? ⟨g, 7, none⟩ = some (.string ⟨#[]⟩) ∧ W.cell? ⟨vb, 1, none⟩ = some (.int .i64 5)
section
variable {W0 W W' : World} {rb g vb : Nat}
theorem als_drew (h : AlS W0 rb W) : AlS W0 rb W.drew := ⟨hid ⟨h.1.out.1.drew, h.1.out.2⟩, h.2⟩
theorem als_call (h : AlS W0 rb W) (hb : Below W.heap.size W W') : AlS W0 rb W' := by
  obtain ⟨hh, a0, a1, a2, a3, a4, a5, a6, a7⟩ := h
  obtain ⟨hbw, h1⟩ := hh.out
  have hz := hbw.size
  have hc : ∀ b o, b < W0.heap.size → W'.cell? ⟨b, o, none⟩ = W.cell? ⟨b, o, none⟩ := fun b o h => hb.cell (p := ⟨b, o, none⟩) (show b < W.heap.size by omega)
  refine ⟨hid ⟨hbw.trans (hb.mono hz), h1⟩, ?_, ?_, ?_, ?_, ?_, ?_, ?_, ?_⟩ <;> (rw [hc _ _ (by omega)]; assumption)
theorem alt_drew (h : AlT W0 g vb W) : AlT W0 g vb W.drew := ⟨hid ⟨h.1.out.1.drew, h.1.out.2⟩, h.2⟩
theorem alt_call (h : AlT W0 g vb W) (hb : Below W.heap.size W W') : AlT W0 g vb W' := by
  obtain ⟨hh, a0, a1, a2, a3, a4, a5, a6, a7, a8⟩ := h
  obtain ⟨hbw, h1, h2⟩ := hh.out
  have hz := hbw.size
  have hc : ∀ b o, b < W0.heap.size → W'.cell? ⟨b, o, none⟩ = W.cell? ⟨b, o, none⟩ := fun b o h => hb.cell (p := ⟨b, o, none⟩) (show b < W.heap.size by omega)
  refine ⟨hid ⟨hbw.trans (hb.mono hz), h1, h2⟩, ?_, ?_, ?_, ?_, ?_, ?_, ?_, ?_, ?_⟩ <;> (rw [hc _ _ (by omega)]; assumption)
end
/-- The fixed cells in memory. -/
theorem cla_fixed (w : World) : ClA (w.alloc (.cells (flatC fixedC).toArray 28)) (.slice (some ⟨w.heap.size, 0, none⟩) 4 4) fixedC := by
  refine ⟨_, 4, rfl, Nat.le_refl _, by omega, fun _ => ⟨_, 0, rfl, fun i hi j hj => ?_⟩⟩
  rw [(Blk.new w 28 (flatC fixedC).toArray).cell, Nat.zero_add, List.getElem?_toArray]
  exact flatC_at fixedC i j hi hj
theorem crow_one {w : World} {B : Nat} {v : Value} {c : CT} (h : CRow w B v [c]) : ∃ g cap, v = .slice (some ⟨g, 0, none⟩) 1 cap ∧ 1 ≤ cap ∧ cap ≤ 9223372036854775807 ∧ g < w.heap.size ∧ ∀ j, j < 8 → w.cell? ⟨g, j, none⟩ = c.e[j]? := by
  have h' := h
  rcases h.2 with ⟨e, hz⟩ | ⟨g, cap, cur, e, hB, hb, h1, h2, _⟩
  · cases hz
  · subst e
    refine ⟨g, cap, rfl, h1, by unfold maxLen at h2; omega, (Array.getElem?_eq_some_iff.1 hb).1, fun j hj => ?_⟩
    have := h'.hc 0 (by simp) j hj
    simpa using this
theorem fixed_okC : ∀ c ∈ fixedC, okC c := by
  intro c hc
  have q : okC (putC 3) ∧ okC (putC 4) ∧ okC goneC ∧ okC (putC 5) := by
    refine ⟨⟨?_, ?_, ?_⟩, ⟨?_, ?_, ?_⟩, ⟨?_, ?_, ?_⟩, ⟨?_, ?_, ?_⟩⟩ <;> (simp only [putC, goneC]; first | decide | (unfold inI; omega))
  simp only [fixedC, List.mem_cons, List.not_mem_nil, or_false] at hc
  rcases hc with rfl | rfl | rfl | rfl
  · exact q.1
  · exact q.2.1
  · exact q.2.2.1
  · exact q.2.2.2

set_option maxHeartbeats 4000000 in
set_option maxRecDepth 100000 in
theorem alive_any (w : World) (hL : LaidU w) : Calls Tryd.prog 20 #[] w fun e w' => e = .returned (.bool true) ∧ Below w.heap.size w w' := by
  have mixed : Tryd.prog.follows .mixedOrders = true := by kernel_rfl
  have HP := hid putc_any
  have HPL : Hid (∀ W, Calls Tryd.prog 45 #[.int .i64 5] W fun e w' => e = .returned (.agg #[.string ⟨#[114]⟩, .string ⟨#[102]⟩, .string ⟨#[113]⟩, .int .i64 5, .int .i64 1, .int .i64 1, .int .i64 5, .string ⟨#[]⟩]) ∧ Below W.heap.size W w') := putc_any 5
  have HX : Hid (∀ (w5 W : World) , LaidU (w5.alloc (.cells (flatC fixedC).toArray 28)) → Below (w5.alloc (.cells (flatC fixedC).toArray 28)).heap.size (w5.alloc (.cells (flatC fixedC).toArray 28)) W → ClA W (.slice (some ⟨w5.heap.size, 0, none⟩) 4 4) fixedC ∧ LaidU W) := fun w5 W h1 h2 => ⟨(cla_fixed w5).below h2, h1.below h2⟩
  have HSe : Hid (∀ (W : World) (v : Value) (a b d : Int), ClA W v fixedC ∧ LaidU W → Calls Tryd.prog 27 #[v, .int .i64 a, .int .i64 b, .int .i64 d] W fun e w' => ∃ v', e = .returned v' ∧ CRow w' W.heap.size v' (seenL a b d fixedS) ∧ Below W.heap.size W w') := fun W v a b d h => (cseen_any v fixedC (by decide) a b d W h.1 fixed_okC h.2).mono fun _ _ ⟨v', s, h1, h2, h3, h4⟩ => ⟨v', h1, by rw [fixed_sort h2] at h3; exact h3, h4⟩
  have HVa : Hid (∀ (W : World) (v : Value), ClA W v fixedC ∧ LaidU W → Calls Tryd.prog 46 #[v, .string ⟨#[102]⟩, .string ⟨#[113]⟩, .int .i64 1, .int .i64 0, .int .i64 9] W fun e w' => e = .returned (.tuple #[.agg #[.int .i64 1, .int .i64 5, .string ⟨#[]⟩], .bool true]) ∧ Below W.heap.size W w') := fun W v h => (cvalue_any v fixedC (by decide) _ _ 1 0 9 W h.1 fixed_okC h.2).mono fun _ _ ⟨s, h1, h2, h3⟩ => ⟨by rw [h1, fixed_sort h2]; exact congrArg (fun o => Ending.returned (valV o)) fixed_value, h3⟩
  have HSo : Hid (∀ (W : World) (v : Value), ClA W v fixedC ∧ LaidU W → Calls Tryd.prog 22 #[v] W fun e w' => ∃ A c, e = .returned (.slice A 4 c) ∧ Below W.heap.size W w') := fun W v h => (sort_any v fixedC (by decide) W h.1 fixed_okC h.2).mono fun _ _ ⟨v', s, h1, h2, h3, h4⟩ => by
    obtain ⟨A, c, e, _⟩ := h3.len
    rw [fixed_sort h2] at e
    exact ⟨A, c, by rw [h1, e]; rfl, h4⟩
  have HRo : Hid (∀ (W : World) (v : Value), ClA W v fixedC ∧ LaidU W → Calls Tryd.prog 47 #[v] W fun e w' => ∃ A c, e = .returned (.slice A 1 c) ∧ Below W.heap.size W w') := fun W v h => (crows_any v fixedC (by decide) W h.1).mono fun _ _ ⟨v', h1, h2, h3⟩ => by
    have h4 := h2.2
    rw [fixed_rows] at h4
    rcases h4 with ⟨_, hz⟩ | ⟨g, cap, cur, e, _⟩
    · cases hz
    · exact ⟨_, cap, by rw [h1, e], h3⟩
  have HS8 : Hid (∀ (W : World) (v : Value) (b d : Int), ClA W v fixedC ∧ LaidU W → Calls Tryd.prog 27 #[v, .int .i64 8, .int .i64 b, .int .i64 d] W fun e w' => ∃ A c, e = .returned (.slice A (seenL 8 b d fixedS).length c) ∧ Below W.heap.size W w') := fun W v b d h => (HSe.out W v 8 b d h).mono fun _ _ ⟨v', h1, h2, h3⟩ => by
    obtain ⟨A, c, e, _⟩ := h2.len
    exact ⟨A, c, by rw [h1, e], h3⟩
  have HNe : Hid (∀ (W : World) (v : Value), ClA W v fixedC ∧ LaidU W → Calls Tryd.prog 28 #[v, .int .i64 8, .int .i64 0, .int .i64 9] W fun e w' => ∃ A c, e = .returned (.slice A 2 c) ∧ Below W.heap.size W w') := fun W v h => (cneeded_any v fixedC (by decide) 8 0 9 W h.1 fixed_okC h.2).mono fun _ _ ⟨v', s, h1, h2, h3, h4⟩ => by
    obtain ⟨A, c, e, _⟩ := h3.len
    rw [fixed_sort h2] at e
    exact ⟨A, c, by rw [h1, e]; rfl, h4⟩
  go_enter Tryd.func20, Tryd.ntmps20
  go_upto_region 2 with (fail)
  obtain ⟨rb, hrb⟩ : ∃ rb, w.heap.size = rb := ⟨_, rfl⟩
  obtain ⟨W0, hW0⟩ : ∃ W0, w.alloc (.cells goneC.e.toArray 28) = W0 := ⟨_, rfl⟩
  have HT : Hid (AlS W0 rb W0) := by
    rw [← hW0, ← hrb]
    have hB := Blk.new w 28 goneC.e.toArray
    exact ⟨hid ⟨Below.refl _ _, hB.lt⟩, blk_words (c := goneC) hB⟩
  have HB0 : Hid (Below w.heap.size w W0) := by rw [← hW0]; exact below_new _ _
  have HL0 : Hid (LaidU W0) := hL.below HB0.out
  rw [show w.alloc (.cells #[.string ⟨#[114]⟩, .string ⟨#[102]⟩, .string ⟨#[113]⟩, .int .i64 3, .int .i64 3, .int .i64 0, .int .i64 0, .string ⟨#[]⟩] 28) = W0 from hW0, hrb]
  clear hrb hW0 hL
  obtain ⟨-, a0, a1, a2, a3, a4, a5, a6, a7⟩ := HT.out
  go_region_held3 (fun W' => Hid (Below W0.heap.size W0 W' ∧ rb < W0.heap.size) ∧ W'.cell? ⟨rb, 0, none⟩ = some (.string ⟨#[114]⟩) ∧ W'.cell? ⟨rb, 1, none⟩ = some (.string ⟨#[102]⟩) ∧ W'.cell? ⟨rb, 2, none⟩ = some (.string ⟨#[113]⟩) ∧ W'.cell? ⟨rb, 3, none⟩ = some (.int .i64 3) ∧ W'.cell? ⟨rb, 4, none⟩ = some (.int .i64 3) ∧ W'.cell? ⟨rb, 5, none⟩ = some (.int .i64 0) ∧ W'.cell? ⟨rb, 6, none⟩ = some (.int .i64 0) ∧ W'.cell? ⟨rb, 7, none⟩ = some (.string ⟨#[]⟩))
    (first | exact HT.out | exact als_drew HT.out | exact als_call (by assumption) hb5 | exact als_call (by assumption) (below_new _ _) | exact als_drew (by assumption) | assumption)
    (first | (go_at_call 45; refine (HP.out _ _).mono ?_; rintro e w5 ⟨rfl, hb5⟩))
  rename_i hLast
  have HB5 : Hid (Below W0.heap.size W0 (w5.alloc (.cells (flatC fixedC).toArray 28))) := hLast.1.out.1
  clear a0 a1 a2 a3 a4 a5 a6 a7 hLast HT
  have HL5 : Hid (LaidU (w5.alloc (.cells (flatC fixedC).toArray 28))) := HL0.out.below HB5.out
  go_upto_region 5 with (first
    | (go_at_call 27; refine (HSe.out _ _ 1 0 9 (HX.out w5 _ HL5.out (Below.refl _ _))).mono ?_; rintro e w6 ⟨v6, rfl, hr6, hb6⟩; rw [fixed_seen1] at hr6; obtain ⟨g, cap, rfl, hc1, hc2, hg, hw⟩ := crow_one hr6)
    | (go_at_call 46; refine (HVa.out _ _ (HX.out w5 _ HL5.out hb6)).mono ?_; rintro e w7 ⟨rfl, hb7⟩))
  obtain ⟨W8, hW8⟩ : ∃ W8, w7.alloc (.cells #[.int .i64 1, .int .i64 5, .string ⟨#[]⟩] 26) = W8 := ⟨_, rfl⟩
  obtain ⟨vb, hvb⟩ : ∃ vb, w7.heap.size = vb := ⟨_, rfl⟩
  obtain ⟨lv, hlv⟩ : ∃ lv, Value.slice (some ⟨w5.heap.size, 0, none⟩) 4 4 = lv := ⟨_, rfl⟩
  have hb8 : Below w7.heap.size w7 W8 := by rw [← hW8]; exact below_new _ _
  have HQ : Hid (∀ W', Below W8.heap.size W8 W' → ClA W' lv fixedC ∧ LaidU W') := fun W' h => by
    have h1 := HX.out w5 _ HL5.out ((hb6.trans (hb7.mono hb6.size)).trans ((hb8.mono (Nat.le_trans hb6.size hb7.size)).trans (h.mono (Nat.le_trans (Nat.le_trans hb6.size hb7.size) hb8.size))))
    rw [hlv] at h1
    exact h1
  have HB8 : Hid (Below w.heap.size w W8) := by
    have h1 := HB0.out.trans (HB5.out.mono HB0.out.size)
    have h2 := h1.trans (hb6.mono h1.size)
    have h3 := h2.trans (hb7.mono h2.size)
    exact h3.trans (hb8.mono h3.size)
  have HT : Hid (AlT W8 g vb W8) := by
    have hg7 : g < w7.heap.size := Nat.lt_of_lt_of_le hg hb7.size
    have k : ∀ j, j < 8 → W8.cell? ⟨g, j, none⟩ = (putC 5).e[j]? := fun j hj => by
      rw [hb8.cell (p := ⟨g, j, none⟩) hg7, hb7.cell (p := ⟨g, j, none⟩) hg]
      exact hw j hj
    have hB : Blk W8 vb 26 #[.int .i64 1, .int .i64 5, .string ⟨#[]⟩] := by rw [← hW8, ← hvb]; exact Blk.new _ _ _
    exact ⟨hid ⟨Below.refl _ _, Nat.lt_of_lt_of_le hg7 hb8.size, hB.lt⟩, k 0 (by omega), k 1 (by omega), k 2 (by omega), k 3 (by omega), k 4 (by omega), k 5 (by omega), k 6 (by omega), k 7 (by omega), hB.cell 1⟩
  rw [hW8, hvb, hlv]
  clear hW8 hvb hlv hb8 hw hr6 hb6 hb7 HX HL5 HB5 HL0 HB0
  obtain ⟨-, a0, a1, a2, a3, a4, a5, a6, a7, a8⟩ := HT.out
  go_region_held3 (fun W' => Hid (Below W8.heap.size W8 W' ∧ g < W8.heap.size ∧ vb < W8.heap.size) ∧ W'.cell? ⟨g, 0, none⟩ = some (.string ⟨#[114]⟩) ∧ W'.cell? ⟨g, 1, none⟩ = some (.string ⟨#[102]⟩) ∧ W'.cell? ⟨g, 2, none⟩ = some (.string ⟨#[113]⟩) ∧ W'.cell? ⟨g, 3, none⟩ = some (.int .i64 5) ∧ W'.cell? ⟨g, 4, none⟩ = some (.int .i64 1) ∧ W'.cell? ⟨g, 5, none⟩ = some (.int .i64 1) ∧ W'.cell? ⟨g, 6, none⟩ = some (.int .i64 5) ∧ W'.cell? ⟨g, 7, none⟩ = some (.string ⟨#[]⟩) ∧ W'.cell? ⟨vb, 1, none⟩ = some (.int .i64 5))
    (first | exact HT.out | exact alt_drew HT.out | exact alt_call (by assumption) hb9 | exact alt_drew (by assumption) | assumption)
    (first
      | (go_at_call 45; refine (HPL.out _).mono ?_; rintro e w9 ⟨rfl, hb9⟩)
      | (go_at_call 22; refine (HSo.out _ _ (HQ.out _ (Hid.out (And.left (by assumption : AlT W8 g vb _))).1)).mono ?_; rintro e w9 ⟨A9, c9, rfl, hb9⟩)
      | (go_at_call 27; refine (HS8.out _ _ _ _ (HQ.out _ (Hid.out (And.left (by assumption : AlT W8 g vb _))).1)).mono ?_; rintro e w9 ⟨A9, c9, rfl, hb9⟩; (first | rw [fixed_seen8] | rw [fixed_seen3]))
      | (go_at_call 47; refine (HRo.out _ _ (HQ.out _ (Hid.out (And.left (by assumption : AlT W8 g vb _))).1)).mono ?_; rintro e w9 ⟨A9, c9, rfl, hb9⟩)
      | (go_at_call 28; refine (HNe.out _ _ (HQ.out _ (Hid.out (And.left (by assumption : AlT W8 g vb _))).1)).mono ?_; rintro e w9 ⟨A9, c9, rfl, hb9⟩))
  rename_i hLast
  have HZ := hid hLast.1.out.1
  clear a0 a1 a2 a3 a4 a5 a6 a7 a8 hLast HT
  go_wp2
  go_ret
  exact ⟨rfl, HB8.out.trans (HZ.out.mono HB8.out.size)⟩
end Go.Proofs.YtpjkhholpbfbpaaDoor
