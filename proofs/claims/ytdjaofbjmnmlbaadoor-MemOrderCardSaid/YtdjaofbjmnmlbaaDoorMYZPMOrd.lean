/- Several texts in one: YZ IC IE JBa JF CW IH YX CX IF PMOrd. Conditions: as each theorem names them. -/
import Derived.Test.YtdjaofbjmnmlbaaDoorMECYW
import Derived.Test.YtdjaofbjmnmlbaaDoorMIAYP
import Derived.Deep.RegionHeld3
import Derived.Deep.QuietTactic
import Derived.Test.YtdjaofbjmnmlbaaDoorFK
import Derived.Lib.SmallJoins
import Derived.Test.YtdjaofbjmnmlbaaDoorHA
import Derived.Test.YtdjaofbjmnmlbaaDoorMHFYA
import Derived.Deep.RegionWith
import Derived.Deep.RegionLaw
import Derived.Test.YtdjaofbjmnmlbaaDoorVLa
import Derived.Test.YtdjaofbjmnmlbaaDoorFN
import Derived.Test.YtdjaofbjmnmlbaaDoorShelf
import Derived.Test.YtdjaofbjmnmlbaaDoorCards
import Derived.Test.YtdjaofbjmnmlbaaDoorTie
import Derived.WalkKit
import Derived.ProofKit
import Derived.OpenShut
import Derived.LaidLaws
import Derived.Deep.DeepHandedRow
import Derived.Lib.LaidTab
import Derived.Lib.LaidU8T
/- What is put among cells that the laws look at. Conditions: as each theorem names them. -/
namespace Go.Proofs.YtdjaofbjmnmlbaaDoor
open Go.RowKit

theorem putL_sm {d : List CT} {c : CT} (h : ∀ x ∈ d, Sm x) (hc : Sm c) : ∀ x ∈ putL d c, Sm x := fun x hx => by
  rcases putL_mem hx with rfl | hx
  · exact hc
  · exact h x hx
end Go.Proofs.YtdjaofbjmnmlbaaDoor

/- The statements' fixed cells: alive. Conditions: the tables of utf8 read as they are laid. -/
namespace Go.Proofs.YtdjaofbjmnmlbaaDoor
open Go.RowKit

abbrev AlS (W0 : World) (rb : Nat) (W : World) : Prop := Hid (Below W0.heap.size W0 W ∧ rb < W0.heap.size) ∧ W.cell? ⟨rb, 0, none⟩ = some (.string ⟨#[114]⟩) ∧ W.cell? ⟨rb, 1, none⟩ = some (.string ⟨#[102]⟩) ∧ W.cell? ⟨rb, 2, none⟩ = some (.string ⟨#[113]⟩) ∧ W.cell? ⟨rb, 3, none⟩ = some (.int .i64 3) ∧ W.cell? ⟨rb, 4, none⟩ = some (.int .i64 3) ∧ W.cell? ⟨rb, 5, none⟩ = some (.int .i64 0) ∧ W.cell? ⟨rb, 6, none⟩ = some (.int .i64 0) ∧ W.cell? ⟨rb, 7, none⟩ = some (.string ⟨#[]⟩)
abbrev AlT (W0 : World) (g vb : Nat) (W : World) : Prop := Hid (Below W0.heap.size W0 W ∧ g < W0.heap.size ∧ vb < W0.heap.size) ∧ W.cell? ⟨g, 0, none⟩ = some (.string ⟨#[114]⟩) ∧ W.cell? ⟨g, 1, none⟩ = some (.string ⟨#[102]⟩) ∧ W.cell? ⟨g, 2, none⟩ = some (.string ⟨#[113]⟩) ∧ W.cell? ⟨g, 3, none⟩ = some (.int .i64 5) ∧ W.cell? ⟨g, 4, none⟩ = some (.int .i64 1) ∧ W.cell? ⟨g, 5, none⟩ = some (.int .i64 1) ∧ W.cell? ⟨g, 6, none⟩ = some (.int .i64 5) ∧ W.cell? ⟨g, 7, none⟩ = some (.string ⟨#[]⟩) ∧ W.cell? ⟨vb, 1, none⟩ = some (.int .i64 5)
section
variable {W0 W W' : World} {rb g vb : Nat}
theorem als_drew (h : AlS W0 rb W) : AlS W0 rb W.drew := ⟨hid ⟨h.1.out.1.drew, h.1.out.2⟩, h.2⟩
theorem als_call (h : AlS W0 rb W) (hb : Below W.heap.size W W') : AlS W0 rb W' := by
  obtain ⟨hh, a0, a1, a2, a3, a4, a5, a6, a7⟩ := h
  obtain ⟨hbw, h1⟩ := hh.out
  have hz := hbw.size
  have hc : ∀ b o, b < W0.heap.size → W'.cell? ⟨b, o, none⟩ = W.cell? ⟨b, o, none⟩ := fun b o h => hb.cell (p := ⟨b, o, none⟩) (show b < W.heap.size by omega)
  refine ⟨hid ⟨hbw.trans (hb.mono hz), h1⟩, ?_, ?_, ?_, ?_, ?_, ?_, ?_, ?_⟩ <;> (rw [hc _ _ (by omega)]; assumption)
theorem alt_drew (h : AlT W0 g vb W) : AlT W0 g vb W.drew := ⟨hid ⟨h.1.out.1.drew, h.1.out.2⟩, h.2⟩
theorem alt_call (h : AlT W0 g vb W) (hb : Below W.heap.size W W') : AlT W0 g vb W' := by
  obtain ⟨hh, a0, a1, a2, a3, a4, a5, a6, a7, a8⟩ := h
  obtain ⟨hbw, h1, h2⟩ := hh.out
  have hz := hbw.size
  have hc : ∀ b o, b < W0.heap.size → W'.cell? ⟨b, o, none⟩ = W.cell? ⟨b, o, none⟩ := fun b o h => hb.cell (p := ⟨b, o, none⟩) (show b < W.heap.size by omega)
  refine ⟨hid ⟨hbw.trans (hb.mono hz), h1, h2⟩, ?_, ?_, ?_, ?_, ?_, ?_, ?_, ?_, ?_⟩ <;> (rw [hc _ _ (by omega)]; assumption)
end
/-- The fixed cells in memory. -/
theorem cla_fixed (w : World) : ClA (w.alloc (.cells (flatC fixedC).toArray 28)) (.slice (some ⟨w.heap.size, 0, none⟩) 4 4) fixedC := by
  refine ⟨_, 4, rfl, Nat.le_refl _, by omega, fun _ => ⟨_, 0, rfl, fun i hi j hj => ?_⟩⟩
  rw [(Blk.new w 28 (flatC fixedC).toArray).cell, Nat.zero_add, List.getElem?_toArray]
  exact flatC_at fixedC i j hi hj
theorem crow_one {w : World} {B : Nat} {v : Value} {c : CT} (h : CRow w B v [c]) : ∃ g cap, v = .slice (some ⟨g, 0, none⟩) 1 cap ∧ 1 ≤ cap ∧ cap ≤ 9223372036854775807 ∧ g < w.heap.size ∧ ∀ j, j < 8 → w.cell? ⟨g, j, none⟩ = c.e[j]? := by
  have h' := h
  rcases h.2 with ⟨e, hz⟩ | ⟨g, cap, cur, e, hB, hb, h1, h2, _⟩
  · cases hz
  · subst e
    refine ⟨g, cap, rfl, h1, by unfold maxLen at h2; omega, (Array.getElem?_eq_some_iff.1 hb).1, fun j hj => ?_⟩
    have := h'.hc 0 (by simp) j hj
    simpa using this
theorem fixed_okC : ∀ c ∈ fixedC, okC c := by
  intro c hc
  have q : okC (putC 3) ∧ okC (putC 4) ∧ okC goneC ∧ okC (putC 5) := by
    refine ⟨⟨?_, ?_, ?_⟩, ⟨?_, ?_, ?_⟩, ⟨?_, ?_, ?_⟩, ⟨?_, ?_, ?_⟩⟩ <;> (simp only [putC, goneC]; first | decide | (unfold inI; omega))
  simp only [fixedC, List.mem_cons, List.not_mem_nil, or_false] at hc
  rcases hc with rfl | rfl | rfl | rfl
  · exact q.1
  · exact q.2.1
  · exact q.2.2.1
  · exact q.2.2.2

set_option maxHeartbeats 4000000 in
set_option maxRecDepth 100000 in
theorem alive_any (w : World) (hL : LaidU w) : Calls Tryd.prog 23 #[] w fun e w' => e = .returned (.bool true) ∧ Below w.heap.size w w' := by
  have mixed : Tryd.prog.follows .mixedOrders = true := by kernel_rfl
  have HP := hid putc_any
  have HPL : Hid (∀ W, Calls Tryd.prog 69 #[.int .i64 5] W fun e w' => e = .returned (.agg #[.string ⟨#[114]⟩, .string ⟨#[102]⟩, .string ⟨#[113]⟩, .int .i64 5, .int .i64 1, .int .i64 1, .int .i64 5, .string ⟨#[]⟩]) ∧ Below W.heap.size W w') := putc_any 5
  have HX : Hid (∀ (w5 W : World) , LaidU (w5.alloc (.cells (flatC fixedC).toArray 28)) → Below (w5.alloc (.cells (flatC fixedC).toArray 28)).heap.size (w5.alloc (.cells (flatC fixedC).toArray 28)) W → ClA W (.slice (some ⟨w5.heap.size, 0, none⟩) 4 4) fixedC ∧ LaidU W) := fun w5 W h1 h2 => ⟨(cla_fixed w5).below h2, h1.below h2⟩
  have HSe : Hid (∀ (W : World) (v : Value) (a b d : Int), ClA W v fixedC ∧ LaidU W → Calls Tryd.prog 30 #[v, .int .i64 a, .int .i64 b, .int .i64 d] W fun e w' => ∃ v', e = .returned v' ∧ CRow w' W.heap.size v' (seenL a b d fixedS) ∧ Below W.heap.size W w') := fun W v a b d h => (cseen_any v fixedC (by decide) a b d W h.1 fixed_okC h.2).mono fun _ _ ⟨v', s, h1, h2, h3, h4⟩ => ⟨v', h1, by rw [fixed_sort h2] at h3; exact h3, h4⟩
  have HVa : Hid (∀ (W : World) (v : Value), ClA W v fixedC ∧ LaidU W → Calls Tryd.prog 70 #[v, .string ⟨#[102]⟩, .string ⟨#[113]⟩, .int .i64 1, .int .i64 0, .int .i64 9] W fun e w' => e = .returned (.tuple #[.agg #[.int .i64 1, .int .i64 5, .string ⟨#[]⟩], .bool true]) ∧ Below W.heap.size W w') := fun W v h => (cvalue_any v fixedC (by decide) _ _ 1 0 9 W h.1 fixed_okC h.2).mono fun _ _ ⟨s, h1, h2, h3⟩ => ⟨by rw [h1, fixed_sort h2]; exact congrArg (fun o => Ending.returned (valV o)) fixed_value, h3⟩
  have HSo : Hid (∀ (W : World) (v : Value), ClA W v fixedC ∧ LaidU W → Calls Tryd.prog 25 #[v] W fun e w' => ∃ A c, e = .returned (.slice A 4 c) ∧ Below W.heap.size W w') := fun W v h => (sort_any v fixedC (by decide) W h.1 fixed_okC h.2).mono fun _ _ ⟨v', s, h1, h2, h3, h4⟩ => by
    obtain ⟨A, c, e, _⟩ := h3.len
    rw [fixed_sort h2] at e
    exact ⟨A, c, by rw [h1, e]; rfl, h4⟩
  have HRo : Hid (∀ (W : World) (v : Value), ClA W v fixedC ∧ LaidU W → Calls Tryd.prog 71 #[v] W fun e w' => ∃ A c, e = .returned (.slice A 1 c) ∧ Below W.heap.size W w') := fun W v h => (crows_any v fixedC (by decide) W h.1).mono fun _ _ ⟨v', h1, h2, h3⟩ => by
    have h4 := h2.2
    rw [fixed_rows] at h4
    rcases h4 with ⟨_, hz⟩ | ⟨g, cap, cur, e, _⟩
    · cases hz
    · exact ⟨_, cap, by rw [h1, e], h3⟩
  have HS8 : Hid (∀ (W : World) (v : Value) (b d : Int), ClA W v fixedC ∧ LaidU W → Calls Tryd.prog 30 #[v, .int .i64 8, .int .i64 b, .int .i64 d] W fun e w' => ∃ A c, e = .returned (.slice A (seenL 8 b d fixedS).length c) ∧ Below W.heap.size W w') := fun W v b d h => (HSe.out W v 8 b d h).mono fun _ _ ⟨v', h1, h2, h3⟩ => by
    obtain ⟨A, c, e, _⟩ := h2.len
    exact ⟨A, c, by rw [h1, e], h3⟩
  have HNe : Hid (∀ (W : World) (v : Value), ClA W v fixedC ∧ LaidU W → Calls Tryd.prog 72 #[v, .int .i64 8, .int .i64 0, .int .i64 9] W fun e w' => ∃ A c, e = .returned (.slice A 2 c) ∧ Below W.heap.size W w') := fun W v h => (cneeded_any v fixedC (by decide) 8 0 9 W h.1 fixed_okC h.2).mono fun _ _ ⟨v', s, h1, h2, h3, h4⟩ => by
    obtain ⟨A, c, e, _⟩ := h3.len
    rw [fixed_sort h2] at e
    exact ⟨A, c, by rw [h1, e]; rfl, h4⟩
  go_enter Tryd.func23, Tryd.ntmps23
  go_upto_region 2 with (fail)
  obtain ⟨rb, hrb⟩ : ∃ rb, w.heap.size = rb := ⟨_, rfl⟩
  obtain ⟨W0, hW0⟩ : ∃ W0, w.alloc (.cells goneC.e.toArray 28) = W0 := ⟨_, rfl⟩
  have HT : Hid (AlS W0 rb W0) := by
    rw [← hW0, ← hrb]
    have hB := Blk.new w 28 goneC.e.toArray
    exact ⟨hid ⟨Below.refl _ _, hB.lt⟩, blk_words (c := goneC) hB⟩
  have HB0 : Hid (Below w.heap.size w W0) := by rw [← hW0]; exact below_new _ _
  have HL0 : Hid (LaidU W0) := hL.below HB0.out
  rw [show w.alloc (.cells #[.string ⟨#[114]⟩, .string ⟨#[102]⟩, .string ⟨#[113]⟩, .int .i64 3, .int .i64 3, .int .i64 0, .int .i64 0, .string ⟨#[]⟩] 28) = W0 from hW0, hrb]
  clear hrb hW0 hL
  obtain ⟨-, a0, a1, a2, a3, a4, a5, a6, a7⟩ := HT.out
  go_region_held3 (fun W' => Hid (Below W0.heap.size W0 W' ∧ rb < W0.heap.size) ∧ W'.cell? ⟨rb, 0, none⟩ = some (.string ⟨#[114]⟩) ∧ W'.cell? ⟨rb, 1, none⟩ = some (.string ⟨#[102]⟩) ∧ W'.cell? ⟨rb, 2, none⟩ = some (.string ⟨#[113]⟩) ∧ W'.cell? ⟨rb, 3, none⟩ = some (.int .i64 3) ∧ W'.cell? ⟨rb, 4, none⟩ = some (.int .i64 3) ∧ W'.cell? ⟨rb, 5, none⟩ = some (.int .i64 0) ∧ W'.cell? ⟨rb, 6, none⟩ = some (.int .i64 0) ∧ W'.cell? ⟨rb, 7, none⟩ = some (.string ⟨#[]⟩))
    (first | exact HT.out | exact als_drew HT.out | exact als_call (by assumption) hb5 | exact als_call (by assumption) (below_new _ _) | exact als_drew (by assumption) | assumption)
    (first | (go_at_call 69; refine (HP.out _ _).mono ?_; rintro e w5 ⟨rfl, hb5⟩))
  rename_i hLast
  have HB5 : Hid (Below W0.heap.size W0 (w5.alloc (.cells (flatC fixedC).toArray 28))) := hLast.1.out.1
  clear a0 a1 a2 a3 a4 a5 a6 a7 hLast HT
  have HL5 : Hid (LaidU (w5.alloc (.cells (flatC fixedC).toArray 28))) := HL0.out.below HB5.out
  go_upto_region 5 with (first
    | (go_at_call 30; refine (HSe.out _ _ 1 0 9 (HX.out w5 _ HL5.out (Below.refl _ _))).mono ?_; rintro e w6 ⟨v6, rfl, hr6, hb6⟩; rw [fixed_seen1] at hr6; obtain ⟨g, cap, rfl, hc1, hc2, hg, hw⟩ := crow_one hr6)
    | (go_at_call 70; refine (HVa.out _ _ (HX.out w5 _ HL5.out hb6)).mono ?_; rintro e w7 ⟨rfl, hb7⟩))
  obtain ⟨W8, hW8⟩ : ∃ W8, w7.alloc (.cells #[.int .i64 1, .int .i64 5, .string ⟨#[]⟩] 26) = W8 := ⟨_, rfl⟩
  obtain ⟨vb, hvb⟩ : ∃ vb, w7.heap.size = vb := ⟨_, rfl⟩
  obtain ⟨lv, hlv⟩ : ∃ lv, Value.slice (some ⟨w5.heap.size, 0, none⟩) 4 4 = lv := ⟨_, rfl⟩
  have hb8 : Below w7.heap.size w7 W8 := by rw [← hW8]; exact below_new _ _
  have HQ : Hid (∀ W', Below W8.heap.size W8 W' → ClA W' lv fixedC ∧ LaidU W') := fun W' h => by
    have h1 := HX.out w5 _ HL5.out ((hb6.trans (hb7.mono hb6.size)).trans ((hb8.mono (Nat.le_trans hb6.size hb7.size)).trans (h.mono (Nat.le_trans (Nat.le_trans hb6.size hb7.size) hb8.size))))
    rw [hlv] at h1
    exact h1
  have HB8 : Hid (Below w.heap.size w W8) := by
    have h1 := HB0.out.trans (HB5.out.mono HB0.out.size)
    have h2 := h1.trans (hb6.mono h1.size)
    have h3 := h2.trans (hb7.mono h2.size)
    exact h3.trans (hb8.mono h3.size)
  have HT : Hid (AlT W8 g vb W8) := by
    have hg7 : g < w7.heap.size := Nat.lt_of_lt_of_le hg hb7.size
    have k : ∀ j, j < 8 → W8.cell? ⟨g, j, none⟩ = (putC 5).e[j]? := fun j hj => by
      rw [hb8.cell (p := ⟨g, j, none⟩) hg7, hb7.cell (p := ⟨g, j, none⟩) hg]
      exact hw j hj
    have hB : Blk W8 vb 26 #[.int .i64 1, .int .i64 5, .string ⟨#[]⟩] := by rw [← hW8, ← hvb]; exact Blk.new _ _ _
    exact ⟨hid ⟨Below.refl _ _, Nat.lt_of_lt_of_le hg7 hb8.size, hB.lt⟩, k 0 (by omega), k 1 (by omega), k 2 (by omega), k 3 (by omega), k 4 (by omega), k 5 (by omega), k 6 (by omega), k 7 (by omega), hB.cell 1⟩
  rw [hW8, hvb, hlv]
  clear hW8 hvb hlv hb8 hw hr6 hb6 hb7 HX HL5 HB5 HL0 HB0
  obtain ⟨-, a0, a1, a2, a3, a4, a5, a6, a7, a8⟩ := HT.out
  go_region_held3 (fun W' => Hid (Below W8.heap.size W8 W' ∧ g < W8.heap.size ∧ vb < W8.heap.size) ∧ W'.cell? ⟨g, 0, none⟩ = some (.string ⟨#[114]⟩) ∧ W'.cell? ⟨g, 1, none⟩ = some (.string ⟨#[102]⟩) ∧ W'.cell? ⟨g, 2, none⟩ = some (.string ⟨#[113]⟩) ∧ W'.cell? ⟨g, 3, none⟩ = some (.int .i64 5) ∧ W'.cell? ⟨g, 4, none⟩ = some (.int .i64 1) ∧ W'.cell? ⟨g, 5, none⟩ = some (.int .i64 1) ∧ W'.cell? ⟨g, 6, none⟩ = some (.int .i64 5) ∧ W'.cell? ⟨g, 7, none⟩ = some (.string ⟨#[]⟩) ∧ W'.cell? ⟨vb, 1, none⟩ = some (.int .i64 5))
    (first | exact HT.out | exact alt_drew HT.out | exact alt_call (by assumption) hb9 | exact alt_drew (by assumption) | assumption)
    (first
      | (go_at_call 69; refine (HPL.out _).mono ?_; rintro e w9 ⟨rfl, hb9⟩)
      | (go_at_call 25; refine (HSo.out _ _ (HQ.out _ (Hid.out (And.left (by assumption : AlT W8 g vb _))).1)).mono ?_; rintro e w9 ⟨A9, c9, rfl, hb9⟩)
      | (go_at_call 30; refine (HS8.out _ _ _ _ (HQ.out _ (Hid.out (And.left (by assumption : AlT W8 g vb _))).1)).mono ?_; rintro e w9 ⟨A9, c9, rfl, hb9⟩; (first | rw [fixed_seen8] | rw [fixed_seen3]))
      | (go_at_call 71; refine (HRo.out _ _ (HQ.out _ (Hid.out (And.left (by assumption : AlT W8 g vb _))).1)).mono ?_; rintro e w9 ⟨A9, c9, rfl, hb9⟩)
      | (go_at_call 72; refine (HNe.out _ _ (HQ.out _ (Hid.out (And.left (by assumption : AlT W8 g vb _))).1)).mono ?_; rintro e w9 ⟨A9, c9, rfl, hb9⟩))
  rename_i hLast
  have HZ := hid hLast.1.out.1
  clear a0 a1 a2 a3 a4 a5 a6 a7 a8 hLast HT
  go_wp2
  go_ret
  exact ⟨rfl, HB8.out.trans (HZ.out.mono HB8.out.size)⟩
end Go.Proofs.YtdjaofbjmnmlbaaDoor

/- The statement of layer 6: no column has more than so many versions to be seen. Conditions: the arguments stand, their numbers are of 64 bits; the tables of utf8 read as they are laid. -/
namespace Go.Proofs.YtdjaofbjmnmlbaaDoor
open Go.RowKit

set_option maxHeartbeats 1000000 in
theorem long_any (v : Value) (l : List CT) (w : World) (h : ClA w v l) :
    Calls Tryd.prog 24 #[v] w fun e w' => e = .returned (.bool (longC l)) ∧ Below w.heap.size w w' := by
  have HL := hid (longcells_any v l w h)
  clear h
  go_enter Tryd.func24, Tryd.ntmps24
  go_wp2_with (go_at_call 33; refine HL.out.mono ?_; rintro e w5 ⟨rfl, hb5⟩)
  go_ret
  exact ⟨rfl, hb5⟩
theorem longC_ok {l : List CT} (h : longC l = false) (hv : ∀ c ∈ l, inI c.vn) : l.length ≤ 100000 ∧ ∀ c ∈ l, okC c := by
  unfold longC at h
  rw [Bool.or_eq_false_iff] at h
  obtain ⟨h1, h2⟩ := h
  have h1 := of_decide_eq_false h1
  refine ⟨by omega, fun c hc => ?_⟩
  have h3 : longC1 c = false := by
    cases e : longC1 c with
    | false => rfl
    | true =>
      rw [List.any_eq_true.2 ⟨c, hc, e⟩] at h2
      cases h2
  unfold longC1 at h3
  simp only [Bool.or_eq_false_iff, decide_eq_false_iff_not] at h3
  exact ⟨by omega, by omega, hv c hc⟩

set_option maxHeartbeats 4000000 in
set_option maxRecDepth 100000 in
theorem cellfew_any (v : Value) (l : List CT) (ver life now : Int) (w : World) (h : ClA w v l) (hv : ∀ c ∈ l, inI c.vn) (hL : LaidU w) :
    Calls Tryd.prog 6 #[v, .int .i64 ver, .int .i64 life, .int .i64 now] w fun e w' => e = .returned (.bool true) ∧ Below w.heap.size w w' := by
  have mixed : Tryd.prog.follows .mixedOrders = true := by kernel_rfl
  have HA := hid (alive_any w hL)
  have HLg : Hid (∀ W, Below w.heap.size w W → Calls Tryd.prog 24 #[v] W fun e w' => e = .returned (.bool (longC l)) ∧ Below W.heap.size W w') := fun W hb => long_any v l W (h.below hb)
  cases hg : longC l with
  | true =>
    rw [hg] at HLg
    clear h hv hL hg
    go_enter Tryd.func6, Tryd.ntmps6
    go_wp2_with (first | (go_at_call 23; refine HA.out.mono ?_; rintro e w5 ⟨rfl, hb5⟩) | (go_at_call 24; refine (HLg.out _ hb5).mono ?_; rintro e w6 ⟨rfl, hb6⟩))
    go_ret
    exact ⟨rfl, hb5.trans (hb6.mono hb5.size)⟩
  | false =>
    rw [hg] at HLg
    have HS : Hid (∀ W, Below w.heap.size w W → Calls Tryd.prog 30 #[v, .int .i64 ver, .int .i64 life, .int .i64 now] W fun e w' => ∃ v' u, e = .returned v' ∧ CRow w' W.heap.size v' u ∧ Hid (fewM ver none 0 u = true ∧ u.length ≤ 100000) ∧ Below W.heap.size W w') := fun W hb => (cseen_any v l (longC_ok hg hv).1 ver life now W (h.below hb) (longC_ok hg hv).2 (hL.below hb)).mono fun _ _ ⟨v', s, h1, h2, h3, h4⟩ => ⟨v', _, h1, h3, ⟨few_all h2 ver life now, Nat.le_trans (seenL_len ver life now s) (Nat.le_trans h2.len (longC_ok hg hv).1)⟩, h4⟩
    clear h hv hL hg
    go_enter Tryd.func6, Tryd.ntmps6
    go_wp2_with (first | (go_at_call 23; refine HA.out.mono ?_; rintro e w5 ⟨rfl, hb5⟩) | (go_at_call 24; refine (HLg.out _ hb5).mono ?_; rintro e w6 ⟨rfl, hb6⟩) | (go_at_call 30; refine (HS.out _ (hb5.trans (hb6.mono hb5.size))).mono ?_; rintro e w7 ⟨v7, u, rfl, hr7, hF, hb7⟩; have K7 := hid hr7.cla; have BW := hid ((hb5.trans (hb6.mono hb5.size)).trans (hb7.mono (Nat.le_trans hb5.size hb6.size))); clear hr7; obtain ⟨A7, c7, rfl, hc7, hm7, hh7⟩ := K7.out; have HH := hid hh7; clear hh7 K7; obtain ⟨m, hm⟩ : ∃ m, u.length = m := ⟨_, rfl⟩; have HM := hid hm; rw [hm] at hc7 ⊢; clear hm))
    all_goals first
      | (go_ret; exact ⟨rfl, hb5.trans (hb6.mono hb5.size)⟩)
      | skip
    have hmL : m ≤ 100000 := by rw [← HM.out]; exact hF.out.2
    clear HA HLg HS
    go_loopw [10, 11] (fun vn vi wr => Hid (Below w7.heap.size w7 wr) ∧ ∃ (i : Nat) (n : Int) (p : Option CT), i ≤ m ∧ vn = .int .i64 n ∧ vi = .int .i64 i ∧ Hid (fewM ver p n (u.drop i) = true) ∧ ((i = 0 ∧ p = none) ∨ ∃ j, i = j + 1 ∧ Hid (∀ h : j < u.length, p = some u[j]))) (fun _ vi _ => m - (intOf vi).toNat)
    case atStart => exact ⟨Below.refl _ _, 0, 0, none, Nat.zero_le _, rfl, rfl, hF.out.1, .inl ⟨rfl, rfl⟩⟩
    case round =>
      obtain ⟨HB, i, n, p, hi, rfl, rfl, HF, hp⟩ := hrel
      by_cases hlt : i < m
      · have him : i < u.length := by rw [HM.out]; exact hlt
        obtain ⟨b, off, rfl, hhc⟩ := HH.out (by rw [HM.out]; omega)
        have hbw : b < w7.heap.size := hhc.lt (by omega)
        obtain ⟨c, hc⟩ : ∃ c, u[i] = c := ⟨_, rfl⟩
        have P : wr.cell? ⟨b, off + i * 8, none⟩ = some (.string c.r) ∧ wr.cell? ⟨b, off + i * 8 + 1, none⟩ = some (.string c.f) ∧ wr.cell? ⟨b, off + i * 8 + 2, none⟩ = some (.string c.q) ∧ wr.cell? ⟨b, off + i * 8 + 3, none⟩ = some (.int .i64 c.t) ∧ wr.cell? ⟨b, off + i * 8 + 4, none⟩ = some (.int .i64 c.k) ∧ wr.cell? ⟨b, off + i * 8 + 5, none⟩ = some (.int .i64 c.vk) ∧ wr.cell? ⟨b, off + i * 8 + 6, none⟩ = some (.int .i64 c.vn) ∧ wr.cell? ⟨b, off + i * 8 + 7, none⟩ = some (.string c.s) := by
          rw [← hc]
          exact (hhc.below HB.out hbw).words i him
        have HF0 : Hid (fewM ver p n (c :: u.drop (i + 1)) = true) := by
          unfold Hid
          rw [← hc, ← List.drop_eq_getElem_cons him]
          exact HF.out
        have hk : c.k = 1 := by
          false_or_by_contra
          rename_i q
          have := HF0.out
          unfold fewM at this
          rw [if_pos q] at this
          cases this
        have hk1 : (c.k != 1) = false := by simpa using hk
        rcases hp with ⟨rfl, rfl⟩ | ⟨j, rfl, hpj⟩
        · have HF2 : Hid (¬ ver < 1 ∧ fewM ver (some c) 1 (u.drop 1) = true) := by
            have hF := HF0.out
            unfold fewM at hF
            rw [if_neg (by omega)] at hF
            simp only at hF
            by_cases hv1 : ver < 1
            · rw [if_pos hv1] at hF; cases hF
            · rw [if_neg hv1] at hF; exact ⟨hv1, hF⟩
          have hv1 : ¬ ver < 1 := HF2.out.1
          have HCc : Hid (∀ h : 0 < u.length, some c = some u[0]) := fun h => by rw [hc]
          have hltz : (0 : Int) < (m : Int) := by omega
          rw [Nat.zero_mul, Nat.add_zero] at P
          obtain ⟨p0, p1, p2, p3, p4, p5, p6, p7⟩ := P
          clear hc hhc HF0 HF hk
          go_upto_region 12 with (fail)
          go_quiet (fail)
          go_wp2
          go_roundw
          case rel => exact ⟨Go.below_drewN HB.out _, 1, 1, some c, by omega, rfl, by go_num, HF2.out.2, .inr ⟨0, rfl, HCc.out⟩⟩
          case measure => simp [intOf]; omega
        · have hju : j < u.length := by omega
          obtain ⟨d, hd⟩ : ∃ d, u[j] = d := ⟨_, rfl⟩
          have hpd := hpj.out hju
          rw [hd] at hpd
          subst hpd
          have Pd : wr.cell? ⟨b, off + j * 8, none⟩ = some (.string d.r) ∧ wr.cell? ⟨b, off + j * 8 + 1, none⟩ = some (.string d.f) ∧ wr.cell? ⟨b, off + j * 8 + 2, none⟩ = some (.string d.q) ∧ wr.cell? ⟨b, off + j * 8 + 3, none⟩ = some (.int .i64 d.t) ∧ wr.cell? ⟨b, off + j * 8 + 4, none⟩ = some (.int .i64 d.k) ∧ wr.cell? ⟨b, off + j * 8 + 5, none⟩ = some (.int .i64 d.vk) ∧ wr.cell? ⟨b, off + j * 8 + 6, none⟩ = some (.int .i64 d.vn) ∧ wr.cell? ⟨b, off + j * 8 + 7, none⟩ = some (.string d.s) := by
            rw [← hd]
            exact (hhc.below HB.out hbw).words j hju
          have HCc : Hid (∀ h : j + 1 < u.length, some c = some u[j + 1]) := fun h => by rw [hc]
          have HF : Hid ((if colC c d then (if d.t ≤ c.t then false else if ver < IntKind.i64.wrap (n + 1) then false else fewM ver (some c) (IntKind.i64.wrap (n + 1)) (u.drop (j + 1 + 1))) else if ver < 1 then false else fewM ver (some c) 1 (u.drop (j + 1 + 1))) = true) := by
            have hF := HF0.out
            unfold fewM at hF
            rw [if_neg (by omega)] at hF
            exact hF
          have hltz : (j : Int) + 1 < (m : Int) := by omega
          have hltp : (0 : Int) < (j : Int) + 1 := by omega
          have hge : (0 : Int) ≤ (j : Int) + 1 := by omega
          have htn : ((j : Int) + 1).toNat = j + 1 := by omega
          have hwj : IntKind.i64.wrap (j : Int) = (j : Int) := by rw [IntKind.wrap_i64]; omega
          have hwj1 : IntKind.i64.wrap ((j : Int) + 1 - 1) = (j : Int) := by rw [IntKind.wrap_i64]; omega
          have hjm : (j : Int) < (m : Int) := by omega
          obtain ⟨p0, p1, p2, p3, p4, p5, p6, p7⟩ := P
          obtain ⟨d0, d1, d2, d3, d4, d5, d6, d7⟩ := Pd
          clear hc hhc HF0 hk hd hpj
          by_cases h1 : c.r = d.r
          · have q1 : (c.r.toList == d.r.toList) = true := by rw [h1]; simp
            by_cases h2 : c.f = d.f
            · have q2 : (c.f.toList == d.f.toList) = true := by rw [h2]; simp
              by_cases h3 : c.q = d.q
              · have q3 : (c.q.toList == d.q.toList) = true := by rw [h3]; simp
                obtain ⟨x, hx⟩ : ∃ x, IntKind.i64.wrap (n + 1) = x := ⟨_, rfl⟩
                have HF2 : Hid (¬ d.t ≤ c.t ∧ ¬ ver < x ∧ fewM ver (some c) x (u.drop (j + 1 + 1)) = true) := by
                  have hF := HF.out
                  rw [if_pos ⟨h1, h2, h3⟩, hx] at hF
                  by_cases a1 : d.t ≤ c.t
                  · rw [if_pos a1] at hF; cases hF
                  · rw [if_neg a1] at hF
                    by_cases a2 : ver < x
                    · rw [if_pos a2] at hF; cases hF
                    · rw [if_neg a2] at hF; exact ⟨a1, a2, hF⟩
                have a1 : ¬ d.t ≤ c.t := HF2.out.1
                have a2 : ¬ ver < x := HF2.out.2.1
                clear h1 h2 h3
                go_upto_region 12 with (fail)
                go_quiet (fail)
                go_upto_region 14 with (fail)
                go_quiet (fail)
                go_wp2
                go_roundw
                case rel => exact ⟨Go.below_drewN HB.out _, j + 1 + 1, x, some c, by omega, rfl, by go_num, HF2.out.2.2, .inr ⟨j + 1, rfl, HCc.out⟩⟩
                case measure => simp [intOf]; omega
              · have q3 : (c.q.toList == d.q.toList) = false := ba_ne h3
                have HF2 : Hid (¬ ver < 1 ∧ fewM ver (some c) 1 (u.drop (j + 1 + 1)) = true) := by
                  have hF := HF.out
                  rw [if_neg (fun h => h3 h.2.2)] at hF
                  by_cases hv1 : ver < 1
                  · rw [if_pos hv1] at hF; cases hF
                  · rw [if_neg hv1] at hF; exact ⟨hv1, hF⟩
                have hv1 : ¬ ver < 1 := HF2.out.1
                clear h1 h2 h3
                go_upto_region 12 with (fail)
                go_quiet (fail)
                go_wp2
                go_roundw
                case rel => exact ⟨Go.below_drewN HB.out _, j + 1 + 1, 1, some c, by omega, rfl, by go_num, HF2.out.2, .inr ⟨j + 1, rfl, HCc.out⟩⟩
                case measure => simp [intOf]; omega
            · have q2 : (c.f.toList == d.f.toList) = false := ba_ne h2
              have HF2 : Hid (¬ ver < 1 ∧ fewM ver (some c) 1 (u.drop (j + 1 + 1)) = true) := by
                have hF := HF.out
                rw [if_neg (fun h => h2 h.2.1)] at hF
                by_cases hv1 : ver < 1
                · rw [if_pos hv1] at hF; cases hF
                · rw [if_neg hv1] at hF; exact ⟨hv1, hF⟩
              have hv1 : ¬ ver < 1 := HF2.out.1
              clear h1 h2
              go_upto_region 12 with (fail)
              go_quiet (fail)
              go_wp2
              go_roundw
              case rel => exact ⟨Go.below_drewN HB.out _, j + 1 + 1, 1, some c, by omega, rfl, by go_num, HF2.out.2, .inr ⟨j + 1, rfl, HCc.out⟩⟩
              case measure => simp [intOf]; omega
          · have q1 : (c.r.toList == d.r.toList) = false := ba_ne h1
            have HF2 : Hid (¬ ver < 1 ∧ fewM ver (some c) 1 (u.drop (j + 1 + 1)) = true) := by
              have hF := HF.out
              rw [if_neg (fun h => h1 h.1)] at hF
              by_cases hv1 : ver < 1
              · rw [if_pos hv1] at hF; cases hF
              · rw [if_neg hv1] at hF; exact ⟨hv1, hF⟩
            have hv1 : ¬ ver < 1 := HF2.out.1
            clear h1
            go_upto_region 12 with (fail)
            go_quiet (fail)
            go_wp2
            go_roundw
            case rel => exact ⟨Go.below_drewN HB.out _, j + 1 + 1, 1, some c, by omega, rfl, by go_num, HF2.out.2, .inr ⟨j + 1, rfl, HCc.out⟩⟩
            case measure => simp [intOf]; omega
      · obtain rfl : i = m := by omega
        go_wp2
        go_ret
        exact ⟨rfl, BW.out.trans (HB.out.mono BW.out.size)⟩
end Go.Proofs.YtdjaofbjmnmlbaaDoor

/- Cells can be told apart; texts that differ, as bytes. Conditions: as each theorem names them. -/
namespace Go.Proofs.YtdjaofbjmnmlbaaDoor
open Go.RowKit

deriving instance DecidableEq for CT
theorem ba_ne2 {x y : ByteArray} (h : x ≠ y) : ¬ x.toList = y.toList := fun e => by
  have := ba_ne h
  rw [e] at this
  simp at this
end Go.Proofs.YtdjaofbjmnmlbaaDoor

/- The statements' own comparison of two lists of cells. Conditions: both stand. -/
namespace Go.Proofs.YtdjaofbjmnmlbaaDoor
open Go.RowKit

set_option maxHeartbeats 4000000 in
set_option maxRecDepth 100000 in
theorem samecells_any (v1 v2 : Value) (u t : List CT) (w : World) (h1 : ClA w v1 u) (h2 : ClA w v2 t) :
    Calls Tryd.prog 29 #[v1, v2] w fun e w' => e = .returned (.bool (decide (u = t))) ∧ Below w.heap.size w w' := by
  have mixed : Tryd.prog.follows .mixedOrders = true := by kernel_rfl
  obtain ⟨A1, c1, rfl, hc1, hm1, hh1⟩ := h1
  obtain ⟨A2, c2, rfl, hc2, hm2, hh2⟩ := h2
  have H1 := hid hh1
  have H2 := hid hh2
  clear hh1 hh2
  obtain ⟨n, hn⟩ : ∃ n, u.length = n := ⟨_, rfl⟩
  have HN := hid hn
  rw [hn] at hc1 ⊢
  clear hn
  by_cases hl : t.length = n
  · have HT := hid hl
    rw [hl] at hc2 ⊢
    clear hl
    go_enter Tryd.func29, Tryd.ntmps29
    go_wp2
    go_loopw [5] (fun vi wr => Hid (Below w.heap.size w wr) ∧ ∃ i : Nat, i ≤ n ∧ vi = .int .i64 i ∧ Hid (u.take i = t.take i)) (fun vi _ => n - (intOf vi).toNat)
    case atStart => exact ⟨Below.refl _ _, 0, Nat.zero_le _, rfl, rfl⟩
    case round =>
      obtain ⟨HB, i, hi, rfl, HE⟩ := hrel
      by_cases hlt : i < n
      · have hiu : i < u.length := by rw [HN.out]; exact hlt
        have hit : i < t.length := by rw [HT.out]; exact hlt
        have hiz : (i : Int) < (n : Int) := by omega
        obtain ⟨b, off, rfl, hhc⟩ := H1.out (by omega)
        obtain ⟨b8, off8, rfl, hhd⟩ := H2.out (by omega)
        have hbw : b < w.heap.size := hhc.lt (by omega)
        have hbw8 : b8 < w.heap.size := hhd.lt (by omega)
        obtain ⟨c, hc⟩ : ∃ c, u[i] = c := ⟨_, rfl⟩
        obtain ⟨d, hd⟩ : ∃ d, t[i] = d := ⟨_, rfl⟩
        have P : wr.cell? ⟨b, off + i * 8, none⟩ = some (.string c.r) ∧ wr.cell? ⟨b, off + i * 8 + 1, none⟩ = some (.string c.f) ∧ wr.cell? ⟨b, off + i * 8 + 2, none⟩ = some (.string c.q) ∧ wr.cell? ⟨b, off + i * 8 + 3, none⟩ = some (.int .i64 c.t) ∧ wr.cell? ⟨b, off + i * 8 + 4, none⟩ = some (.int .i64 c.k) ∧ wr.cell? ⟨b, off + i * 8 + 5, none⟩ = some (.int .i64 c.vk) ∧ wr.cell? ⟨b, off + i * 8 + 6, none⟩ = some (.int .i64 c.vn) ∧ wr.cell? ⟨b, off + i * 8 + 7, none⟩ = some (.string c.s) := by
          rw [← hc]
          exact (hhc.below HB.out hbw).words i hiu
        have Pd : wr.cell? ⟨b8, off8 + i * 8, none⟩ = some (.string d.r) ∧ wr.cell? ⟨b8, off8 + i * 8 + 1, none⟩ = some (.string d.f) ∧ wr.cell? ⟨b8, off8 + i * 8 + 2, none⟩ = some (.string d.q) ∧ wr.cell? ⟨b8, off8 + i * 8 + 3, none⟩ = some (.int .i64 d.t) ∧ wr.cell? ⟨b8, off8 + i * 8 + 4, none⟩ = some (.int .i64 d.k) ∧ wr.cell? ⟨b8, off8 + i * 8 + 5, none⟩ = some (.int .i64 d.vk) ∧ wr.cell? ⟨b8, off8 + i * 8 + 6, none⟩ = some (.int .i64 d.vn) ∧ wr.cell? ⟨b8, off8 + i * 8 + 7, none⟩ = some (.string d.s) := by
          rw [← hd]
          exact (hhd.below HB.out hbw8).words i hit
        obtain ⟨p0, p1, p2, p3, p4, p5, p6, p7⟩ := P
        obtain ⟨d0, d1, d2, d3, d4, d5, d6, d7⟩ := Pd
        by_cases he : c = d
        · have HE2 : Hid (u.take (i + 1) = t.take (i + 1)) := by
            unfold Hid
            rw [List.take_add_one, List.take_add_one, HE.out, List.getElem?_eq_getElem hiu, List.getElem?_eq_getElem hit, hc, hd, he]
          clear hc hd hhc hhd HE
          subst he
          go_upto_region 6 with (fail); go_quiet (fail); go_wp2
          go_roundw
          case rel => exact ⟨Go.below_drewN HB.out _, i + 1, by omega, by go_num, HE2.out⟩
          case measure => simp [intOf]; omega
        · have HNE : Hid (decide (u = t) = false) := by
            refine decide_eq_false fun e => he ?_
            subst e
            rw [← hc, ← hd]
          clear hc hd hhc hhd HE
          by_cases e0 : c.r = d.r
          · have n0 : c.r.toList = d.r.toList := by rw [e0]
            by_cases e1 : c.f = d.f
            · have n1 : c.f.toList = d.f.toList := by rw [e1]
              by_cases e2 : c.q = d.q
              · have n2 : c.q.toList = d.q.toList := by rw [e2]
                by_cases e3 : c.t = d.t
                · have n3 : c.t = d.t := e3
                  by_cases e4 : c.k = d.k
                  · have n4 : c.k = d.k := e4
                    by_cases e5 : c.vk = d.vk
                    · have n5 : c.vk = d.vk := e5
                      by_cases e6 : c.vn = d.vn
                      · have n6 : c.vn = d.vn := e6
                        by_cases e7 : c.s = d.s
                        · have n7 : c.s.toList = d.s.toList := by rw [e7]
                          exfalso
                          apply he
                          cases d; cases c; simp only at e0 e1 e2 e3 e4 e5 e6 e7; subst e0 e1 e2 e3 e4 e5 e6 e7; rfl
                        · have n7 : ¬ c.s.toList = d.s.toList := ba_ne2 e7
                          clear he e0 e1 e2 e3 e4 e5 e6 e7
                          go_upto_region 6 with (fail); go_quiet (fail); go_wp2
                          go_ret
                          refine ⟨?_, Go.below_drewN HB.out _⟩
                          rw [HNE.out]
                          rfl
                      · have n6 : ¬ c.vn = d.vn := e6
                        clear he e0 e1 e2 e3 e4 e5 e6
                        go_upto_region 6 with (fail); go_quiet (fail); go_wp2
                        go_ret
                        refine ⟨?_, Go.below_drewN HB.out _⟩
                        rw [HNE.out]
                        rfl
                    · have n5 : ¬ c.vk = d.vk := e5
                      clear he e0 e1 e2 e3 e4 e5
                      go_upto_region 6 with (fail); go_quiet (fail); go_wp2
                      go_ret
                      refine ⟨?_, Go.below_drewN HB.out _⟩
                      rw [HNE.out]
                      rfl
                  · have n4 : ¬ c.k = d.k := e4
                    clear he e0 e1 e2 e3 e4
                    go_upto_region 6 with (fail); go_quiet (fail); go_wp2
                    go_ret
                    refine ⟨?_, Go.below_drewN HB.out _⟩
                    rw [HNE.out]
                    rfl
                · have n3 : ¬ c.t = d.t := e3
                  clear he e0 e1 e2 e3
                  go_upto_region 6 with (fail); go_quiet (fail); go_wp2
                  go_ret
                  refine ⟨?_, Go.below_drewN HB.out _⟩
                  rw [HNE.out]
                  rfl
              · have n2 : ¬ c.q.toList = d.q.toList := ba_ne2 e2
                clear he e0 e1 e2
                go_upto_region 6 with (fail); go_quiet (fail); go_wp2
                go_ret
                refine ⟨?_, Go.below_drewN HB.out _⟩
                rw [HNE.out]
                rfl
            · have n1 : ¬ c.f.toList = d.f.toList := ba_ne2 e1
              clear he e0 e1
              go_upto_region 6 with (fail); go_quiet (fail); go_wp2
              go_ret
              refine ⟨?_, Go.below_drewN HB.out _⟩
              rw [HNE.out]
              rfl
          · have n0 : ¬ c.r.toList = d.r.toList := ba_ne2 e0
            clear he e0
            go_upto_region 6 with (fail); go_quiet (fail); go_wp2
            go_ret
            refine ⟨?_, Go.below_drewN HB.out _⟩
            rw [HNE.out]
            rfl
      · obtain rfl : i = n := by omega
        have HQ : Hid (decide (u = t) = true) := by
          have h := HE.out
          rw [List.take_of_length_le (by rw [HN.out]; exact Nat.le_refl _), List.take_of_length_le (by rw [HT.out]; exact Nat.le_refl _)] at h
          exact decide_eq_true h
        go_wp2
        go_ret
        exact ⟨by rw [HQ.out]; rfl, HB.out⟩
  · have HQ : Hid (decide (u = t) = false) := decide_eq_false fun e => hl (by rw [← e]; exact HN.out)
    obtain ⟨m, hm⟩ : ∃ m, t.length = m := ⟨_, rfl⟩
    rw [hm] at hl hc2 ⊢
    have hne : ((n : Int) == (m : Int)) = false := by simp; omega
    have hne2 : ((n : Int) != (m : Int)) = true := by simp; omega
    clear hl hm
    go_enter Tryd.func29, Tryd.ntmps29
    go_wp2
    go_ret
    exact ⟨by rw [HQ.out]; rfl, Below.refl _ _⟩
end Go.Proofs.YtdjaofbjmnmlbaaDoor

/- A cell of a law's, opened and shut. Conditions: none. -/
namespace Go.Proofs.YtdjaofbjmnmlbaaDoor
open Go.ChangeShapes Go.WideShapes Go.ChangeAt Go.RowKit Go.Joins

theorem cellsC : Tryd.prog.cellsOf 28 = 8 := by kernel_rfl
theorem cellsV3 : Tryd.prog.cellsOf 26 = 3 := by kernel_rfl
theorem cellsS1 : Tryd.prog.cellsOf 9 = 1 := by kernel_rfl
theorem cellsI1 : Tryd.prog.cellsOf 3 = 1 := by kernel_rfl
theorem array8 {α : Type} {cs : Array α} (h : cs.size = 8) : ∃ c0 c1 c2 c3 c4 c5 c6 c7, cs = #[c0, c1, c2, c3, c4, c5, c6, c7] := by
  obtain ⟨l⟩ := cs
  match l, h with
  | [c0, c1, c2, c3, c4, c5, c6, c7], _ => exact ⟨c0, c1, c2, c3, c4, c5, c6, c7, rfl⟩
section
variable {H : Type} {enc : TypeId × Value → H} {W : World} {sp : Nat → Bool}
set_option maxRecDepth 100000 in
/-- A cell that came in, opened. -/
theorem open_cell {r : Reach} {b0 b1 : Nat} {v : Value} {d : DataW H} {p : List MemPlace} (hv : Value.okWide Tryd.prog W r b0 28 v) (h : DataW.Trod enc Tryd.prog W b1 sp true 28 v d p) :
    ∃ (r f q : ByteArray) (t k vk vn : Int) (s : ByteArray), v = .agg #[.string r, .string f, .string q, .int .i64 t, .int .i64 k, .int .i64 vk, .int .i64 vn, .string s] ∧
      d = .agg [.lit (.string r.data.toList), .lit (.string f.data.toList), .lit (.string q.data.toList), .lit (.int .i64 t), .lit (.int .i64 k), .agg [.lit (.int .i64 vk), .lit (.int .i64 vn), .lit (.string s.data.toList)]] ∧ p = [] ∧
      r.size ≤ maxLen ∧ f.size ≤ maxLen ∧ q.size ≤ maxLen ∧ (Lit.int .i64 t).wf = true ∧ (Lit.int .i64 k).wf = true ∧ (Lit.int .i64 vk).wf = true ∧ (Lit.int .i64 vn).wf = true ∧ s.size ≤ maxLen := by
  obtain ⟨cs, rfl, hsz⟩ := okWide_struct Tryd.underlying28 hv
  obtain ⟨c0, c1, c2, c3, c4, c5, c6, c7, rfl⟩ := array8 (hsz.trans cellsC)
  obtain ⟨fuel, hf⟩ := h
  obtain ⟨xs, n, _, hx, _, hlen, hg⟩ := DataW.trod_struct Tryd.underlying28 hf
  match xs, hlen with
  | [y0, y1, y2, y3, y4, y5], _ =>
    have h0 := hg 0 _ rfl
    have h1 := hg 1 _ rfl
    have h2 := hg 2 _ rfl
    have h3 := hg 3 _ rfl
    have h4 := hg 4 _ rfl
    have h5 := hg 5 _ rfl
    simp [Value.cells, cellsS1, cellsI1, cellsV3] at h0 h1 h2 h3 h4 h5
    obtain ⟨r, e0, z0, w0⟩ := DataW.trod_string Tryd.underlying9 h0
    obtain ⟨f, e1, z1, w1⟩ := DataW.trod_string Tryd.underlying9 h1
    obtain ⟨q, e2, z2, w2⟩ := DataW.trod_string Tryd.underlying9 h2
    obtain ⟨t, e3, z3, w3⟩ := DataW.trod_int Tryd.underlying3 h3
    obtain ⟨k, e4, z4, w4⟩ := DataW.trod_int Tryd.underlying3 h4
    obtain ⟨ys, n', _, hx', _, hlen', hg'⟩ := DataW.trod_struct Tryd.underlying26 h5
    match ys, hlen' with
    | [u0, u1, u2], _ =>
      have g0 := hg' 0 _ rfl
      have g1 := hg' 1 _ rfl
      have g2 := hg' 2 _ rfl
      simp [cellsS1, cellsI1] at g0 g1 g2
      obtain ⟨vk, e5, z5, w5⟩ := DataW.trod_int Tryd.underlying3 g0
      obtain ⟨vn, e6, z6, w6⟩ := DataW.trod_int Tryd.underlying3 g1
      obtain ⟨s, e7, z7, w7⟩ := DataW.trod_string Tryd.underlying9 g2
      simp at e0 e1 e2 e3 e4 e5 e6 e7
      subst e0 e1 e2 e3 e4 e5 e6 e7
      simp only [Prod.mk.injEq] at hx hx'
      exact ⟨r, f, q, t, k, vk, vn, s, rfl, by simp_all, by simp_all, w0, w1, w2, w3, w4, w5, w6, w7⟩
end
end Go.Proofs.YtdjaofbjmnmlbaaDoor

/- A list of numbers that came in, opened. Conditions: the reading's own reach. -/
namespace Go.Proofs.YtdjaofbjmnmlbaaDoor
open Go.ChangeShapes Go.WideShapes Go.ChangeAt Go.RowKit

/-- The value is a slice that holds the numbers zs. -/
def IntA (w : World) (v : Value) (zs : List Int) : Prop := ∃ A c, v = .slice A zs.length c ∧ zs.length ≤ c ∧ c ≤ 9223372036854775807 ∧ (0 < zs.length → ∃ b off, A = some ⟨b, off, none⟩ ∧ b < w.heap.size ∧ ∀ i, i < zs.length → w.cell? ⟨b, off + i, none⟩ = some (.int .i64 (zs.getD i 0)))
theorem IntA.below {w w' : World} {v : Value} {zs : List Int} (h : IntA w v zs) (hb : Below w.heap.size w w') : IntA w' v zs := by
  obtain ⟨A, c, h1, h2, h3, h4⟩ := h
  refine ⟨A, c, h1, h2, h3, fun h0 => ?_⟩
  obtain ⟨b, off, e, hl, hh⟩ := h4 h0
  exact ⟨b, off, e, Nat.lt_of_lt_of_le hl hb.size, fun i hi => by rw [hb.cell (p := ⟨b, off + i, none⟩) hl]; exact hh i hi⟩
theorem cellsInt : Tryd.prog.cellsOf 3 = 1 := by kernel_rfl
section
variable {H : Type} {enc : TypeId × Value → H} {W : World}
set_option maxRecDepth 100000 in
theorem open_inta {r : Reach} {b0 b1 : Nat} {v : Value} {d : DataW H} {p : List MemPlace} (hv : Value.okWide Tryd.prog W r b0 40 v) (h : DataW.Trod enc Tryd.prog W b1 (fun _ => true) true 40 v d p) : ∃ zs, IntA W v zs ∧ ∀ i, inI (zs.getD i 0) := by
  obtain ⟨a0, len, cap, rfl⟩ := okWide_slice Tryd.underlying40 hv
  obtain ⟨fuel, hf⟩ := h
  rcases open_ints Tryd.underlying40 Tryd.underlying3 cellsInt hf with ⟨hcs, hx⟩ | ⟨a, len', cap', zs, hcs, _, hl, hm, hz, hx, hcell, hwz⟩
  · simp [Value.cells] at hcs
    obtain ⟨rfl, rfl, rfl⟩ := hcs
    exact ⟨[], ⟨none, 0, rfl, by simp, by omega, fun h => absurd h (by simp)⟩, fun i => by simp [inI]⟩
  · simp [Value.cells] at hcs
    obtain ⟨rfl, rfl, rfl⟩ := hcs
    simp only [if_true] at hz
    have hul : (zs.take len).length = len := by rw [List.length_take]; omega
    refine ⟨zs.take len, ⟨some a, cap, by rw [hul], by rw [hul]; exact hl, by unfold maxLen at hm; omega, fun h0 => ?_⟩, fun i => ?_⟩
    · rw [hul] at h0
      obtain ⟨b, off, rfl, hc⟩ := ints_at hcell (by omega)
      refine ⟨b, off, rfl, cell_lt (hc 0 (by omega)), fun i hi => ?_⟩
      rw [hul] at hi
      rw [hc i (by omega)]
      simp only [List.getD_eq_getElem?_getD, List.getElem?_take_of_lt hi]
    · rw [List.getD_eq_getElem?_getD]
      cases e : (zs.take len)[i]? with
      | none => simp [inI]
      | some z =>
        have hm : z ∈ zs := List.mem_of_mem_take (List.mem_of_getElem? e)
        have hw := hwz z hm
        have h1 : IntKind.i64.min = -9223372036854775808 := rfl
        have h2 : IntKind.i64.max = 9223372036854775807 := rfl
        simp [Lit.wf] at hw
        simp only [Option.getD_some]
        unfold inI
        omega
end
end Go.Proofs.YtdjaofbjmnmlbaaDoor

/- The statement of layer 7: cells are in order, however they were put. Conditions: the arguments stand, the numbers are of 64 bits; the tables of utf8 read as they are laid. -/
namespace Go.Proofs.YtdjaofbjmnmlbaaDoor
open Go.RowKit

set_option maxHeartbeats 16000000 in
set_option maxRecDepth 100000 in
theorem memorder_any (v v2 : Value) (l : List CT) (zs : List Int) (w : World) (h : ClA w v l) (hv : ∀ c ∈ l, inI c.vn) (h2 : IntA w v2 zs) (hz : ∀ i, inI (zs.getD i 0)) (hL : LaidU w) :
    Calls Tryd.prog 9 #[v, v2] w fun e w' => e = .returned (.bool true) ∧ Below w.heap.size w w' := by
  have mixed : Tryd.prog.follows .mixedOrders = true := by kernel_rfl
  have HA := hid (malive_any w hL)
  have HLg : Hid (∀ W, Below w.heap.size w W → Calls Tryd.prog 33 #[v, .int .i64 150] W fun e w' => e = .returned (.bool (longM 150 l)) ∧ Below W.heap.size W w') := fun W hb => longcells_at 150 v l W (h.below hb)
  have HZ := hid h2
  obtain ⟨A2, k2, rfl, hk1, hk2, hh2⟩ := h2
  have HZ2 := hid hh2
  clear hh2
  obtain ⟨nz, hnz⟩ : ∃ nz, zs.length = nz := ⟨_, rfl⟩
  have HNZ := hid hnz
  rw [hnz] at hk1 HZ ⊢
  clear hnz
  by_cases hg : longM 150 l = true ∨ 200 < nz
  · have HG : Hid (longM 150 l = true ∨ (longM 150 l = false ∧ 200 < nz)) := by
      unfold Hid
      cases q : longM 150 l with
      | true => exact .inl rfl
      | false => exact .inr ⟨rfl, by rcases hg with z | z; rw [q] at z; cases z; exact z⟩
    rcases HG.out with q | ⟨q, hbig⟩
    · rw [q] at HLg
      clear h hv hL hg HG q hz HZ HNZ hk1 hk2
      go_enter Tryd.func9, Tryd.ntmps9
      go_wp2_with (first | (go_at_call 32; refine HA.out.mono ?_; rintro e w5 ⟨rfl, hb5⟩) | (go_at_call 33; refine (HLg.out _ hb5).mono ?_; rintro e w6 ⟨rfl, hb6⟩))
      go_ret
      exact ⟨rfl, hb5.trans (hb6.mono hb5.size)⟩
    · rw [q] at HLg
      have hbz : (200 : Int) < (nz : Int) := by omega
      clear h hv hL hg HG q hz HZ HNZ hk1 hk2
      go_enter Tryd.func9, Tryd.ntmps9
      go_wp2_with (first | (go_at_call 32; refine HA.out.mono ?_; rintro e w5 ⟨rfl, hb5⟩) | (go_at_call 33; refine (HLg.out _ hb5).mono ?_; rintro e w6 ⟨rfl, hb6⟩))
      go_ret
      exact ⟨rfl, hb5.trans (hb6.mono hb5.size)⟩
  · have hg1 : longM 150 l = false := by
      cases q : longM 150 l with
      | false => rfl
      | true => exact absurd (.inl q) hg
    have hnz2 : nz ≤ 200 := by omega
    have hnzz : ¬ (200 : Int) < (nz : Int) := by omega
    rw [hg1] at HLg
    obtain ⟨hl, hok⟩ := longM_ok hg1 hv
    obtain ⟨A, cc, rfl, hc1, hc2, hh⟩ := h
    obtain ⟨n, hn⟩ : ∃ n, l.length = n := ⟨_, rfl⟩
    have HN := hid hn
    rw [hn] at hc1 hh hl HLg ⊢
    have HH := hid hh
    have HO := hid hok
    have HLa := hid hL
    have HZz := hid hz
    clear hn hh hv hL hg hg1 hok hz
    go_enter Tryd.func9, Tryd.ntmps9
    go_wp2_with (first
      | (go_at_call 32; refine HA.out.mono ?_; rintro e w5 ⟨rfl, hb5⟩)
      | (go_at_call 33; refine (HLg.out _ hb5).mono ?_; rintro e w6 ⟨rfl, hb6⟩)
      | (go_at_call 34; refine (new_any _).mono ?_; rintro e w1 ⟨mb, rfl, hM1, hb1⟩))
    have HB6 : Hid (Below w.heap.size w w6) := hb5.trans (hb6.mono hb5.size)
    have HS1 := ms_new hM1 hb1
    have HP : Hid (∀ W d c, MeS w6.heap.size mb d w6 W → d.length ≤ 100000 → c ∈ l → Calls Tryd.prog 35 #[.pointer (some ⟨mb, 0, none⟩), c.v] W fun e w' => e = .returned (.bool c.ok) ∧ MeS w6.heap.size mb (putR d c) w6 w') := fun W d c h hd hc =>
      mes_put h (HLa.out.below HB6.out) (Nat.le_refl _) (HO.out c hc).1 (by have := (HO.out c hc).2.2.2.2; omega) hd
    clear HA HLg hb5 hb6 hM1 hb1
    go_loopw [6] (fun vi wr => ∃ (i : Nat) (d : List CT), i ≤ n ∧ vi = .int .i64 i ∧ d.length ≤ i ∧ MeS w6.heap.size mb d w6 wr ∧ Hid (∀ c ∈ d, Sm c)) (fun vi _ => n - (intOf vi).toNat)
    case atStart => exact ⟨0, [], Nat.zero_le _, rfl, Nat.le_refl _, HS1, fun c hc => by cases hc⟩
    case round =>
      clear HS1
      obtain ⟨i, d, hi, rfl, hd, HS, HSm⟩ := hrel
      by_cases hlt : i < n
      · have hin : i < l.length := by rw [HN.out]; exact hlt
        obtain ⟨b, off, rfl, hhc⟩ := HH.out (by omega)
        have hbw : b < w.heap.size := hhc.lt (by rw [HN.out]; omega)
        have hltz : (i : Int) < (n : Int) := by omega
        obtain ⟨c, hc⟩ : ∃ c, l[i]? = some c := ⟨_, List.getElem?_eq_getElem hin⟩
        have hcl : c ∈ l := List.mem_of_getElem? hc
        have HPc := hid (HP.out wr d c HS (by omega) hcl)
        have HSm2 : Hid (∀ x ∈ putR d c, Sm x) := by
          have := HO.out c hcl
          unfold Hid putR
          split
          · exact putL_sm HSm.out this
          · exact HSm.out
        obtain ⟨q0, q1, q2, q3, q4, q5, q6, q7⟩ := ct_words (hhc.below (HB6.out.trans (HS.out.2.1.b.mono HB6.out.size)) hbw) i hc
        clear hhc hcl hin hc HP HSm
        go_wp2_with (go_at_call 35; refine HPc.out.mono ?_; rintro e w8 ⟨rfl, HS8⟩)
        go_roundw
        case rel => exact ⟨i + 1, putR d c, by omega, by go_num, by have := putR_len d c; omega, HS8, HSm2.out⟩
        case measure => simp [intOf]; omega
      · obtain rfl : i = n := by omega
        have hd5 : d.length ≤ 150 := by omega
        have HB0 : Hid (Below w.heap.size w wr) := HB6.out.trans (HS.out.2.1.b.mono HB6.out.size)
        have HAl : Hid (Calls Tryd.prog 40 #[.pointer (some ⟨mb, 0, none⟩)] wr fun e w' => ∃ v, e = .returned v ∧ CRow w' wr.heap.size v d ∧ Below wr.heap.size wr w') := allC_any mb w6.heap.size d (by omega) wr HS.out.1
        have HD := hid HS.out.1.okl
        have HRs := hid HS.out.1.rise
        clear hd HP HO HH HN
        go_wp2_with (go_at_call 40; refine HAl.out.mono ?_; rintro e w7 ⟨v7, rfl, hr7, hb7⟩; have K7 := hid hr7.cla; have HS7 := MeS.below HS hb7; clear hr7; have KV := K7; obtain ⟨A7, c7, rfl, hc7, hm7, hh7⟩ := K7.out; have HH := hid hh7; clear hh7 K7; obtain ⟨m, hm⟩ : ∃ m, d.length = m := ⟨_, rfl⟩; have HM := hid hm; rw [hm] at hc7 hd5 KV ⊢; clear hm)
        -- LOOPS
        have B7 : Hid (Below w.heap.size w w7) := HB0.out.trans (hb7.mono HB0.out.size)
        have HMs := hid HS7
        have HOk : Hid (∀ y ∈ d, y.ok = true ∧ okC y ∧ y.s.size ≤ 1000) := HD.out
        clear hb7 HS7 HB0 HAl HS HD
        go_loopw [8] (fun vi wr => ∃ i : Nat, i ≤ m ∧ vi = .int .i64 i ∧ Hid (Below w7.heap.size w7 wr)) (fun vi _ => m - (intOf vi).toNat)
        case atStart => exact ⟨0, Nat.zero_le _, rfl, Below.refl _ _⟩
        case round =>
          obtain ⟨i, hi, rfl, HB⟩ := hrel
          by_cases hlt : i < m
          · have him : i < d.length := by rw [HM.out]; exact hlt
            obtain ⟨b, off, rfl, hhc⟩ := HH.out (by rw [HM.out]; omega)
            have hbw : b < w7.heap.size := hhc.lt (by rw [HM.out]; omega)
            obtain ⟨y, hy⟩ : ∃ y, d[i]? = some y := ⟨_, List.getElem?_eq_getElem him⟩
            have HGy : Hid (∀ W, Below w7.heap.size w7 W → Calls Tryd.prog 38 #[.pointer (some ⟨mb, 0, none⟩), y.v] W fun e w' => e = .returned (.tuple #[y.v, .bool true]) ∧ Below W.heap.size W w') := fun W hb => mes_get (MeS.below HMs.out hb) (get_here HRs.out hy)
            cases i with
            | zero =>
              have hltz : (0 : Int) < (m : Int) := by omega
              have HWy : Hid (∀ W, Below w7.heap.size w7 W → W.cell? ⟨b, off, none⟩ = some (.string y.r) ∧ W.cell? ⟨b, off + 1, none⟩ = some (.string y.f) ∧ W.cell? ⟨b, off + 2, none⟩ = some (.string y.q) ∧ W.cell? ⟨b, off + 3, none⟩ = some (.int .i64 y.t) ∧ W.cell? ⟨b, off + 4, none⟩ = some (.int .i64 y.k) ∧ W.cell? ⟨b, off + 5, none⟩ = some (.int .i64 y.vk) ∧ W.cell? ⟨b, off + 6, none⟩ = some (.int .i64 y.vn) ∧ W.cell? ⟨b, off + 7, none⟩ = some (.string y.s)) := fun W hb => by
                have P := ct_words (hhc.below hb hbw) 0 hy
                rw [Nat.zero_mul, Nat.add_zero] at P
                exact P
              have HT : Hid (SingW wr b off y wr) := ⟨hid ⟨Below.refl _ _, Nat.lt_of_lt_of_le hbw HB.out.size⟩, HWy.out wr HB.out⟩
              obtain ⟨y0, y1, y2, y3, y4, y5, y6, y7⟩ := HWy.out wr HB.out
              clear hhc hy him hlt
              go_upto_region 14 with (fail)
              refine wp_region_held_drew (S := (fun W' => Hid (Below wr.heap.size wr W' ∧ b < wr.heap.size) ∧ (W'.cell? ⟨b, off, none⟩ = some (.string y.r) ∧ W'.cell? ⟨b, off + 1, none⟩ = some (.string y.f) ∧ W'.cell? ⟨b, off + 2, none⟩ = some (.string y.q) ∧ W'.cell? ⟨b, off + 3, none⟩ = some (.int .i64 y.t) ∧ W'.cell? ⟨b, off + 4, none⟩ = some (.int .i64 y.k) ∧ W'.cell? ⟨b, off + 5, none⟩ = some (.int .i64 y.vk) ∧ W'.cell? ⟨b, off + 6, none⟩ = some (.int .i64 y.vn) ∧ W'.cell? ⟨b, off + 7, none⟩ = some (.string y.s)))) (by kernel_rfl) ?_ (fun hHeld => ?_)
              (exact sing_drew HT.out)
              (refine wpAnyH_take (i := 0) (v := ?_) rfl (by kernel_rfl) (by kernel_rfl) (by kernel_rfl) (fun _ _ _ h => h) (Or.inl ⟨by kernel_rfl, ?_⟩) (by assumption) ?_; rotate_left; · (intro w hSw; (try dsimp only at hSw); go_simp; first | done | with_reducible rfl))
              (try simp only [Act.put]); (try simp only [List.getElem_toArray]); (try simp only [List.getElem_cons_succ]); (try simp only [List.getElem_cons_zero]); (try simp only [List.setIfInBounds_toArray]); (try simp only [List.set_cons_succ]); (try simp only [List.set_cons_zero])
              (refine wpAnyH_take (i := 1) (v := ?_) rfl (by kernel_rfl) (by kernel_rfl) (by kernel_rfl) (fun _ _ _ h => h) (Or.inl ⟨by kernel_rfl, ?_⟩) (by assumption) ?_; rotate_left; · (intro w hSw; (try dsimp only at hSw); go_simp; first | done | with_reducible rfl))
              (try simp only [Act.put]); (try simp only [List.getElem_toArray]); (try simp only [List.getElem_cons_succ]); (try simp only [List.getElem_cons_zero]); (try simp only [List.setIfInBounds_toArray]); (try simp only [List.set_cons_succ]); (try simp only [List.set_cons_zero])
              (refine wpAnyH_take (i := 2) (v := ?_) rfl (by kernel_rfl) (by kernel_rfl) (by kernel_rfl) (fun _ _ _ h => h) (Or.inl ⟨by kernel_rfl, ?_⟩) (by assumption) ?_; rotate_left; · (intro w hSw; (try dsimp only at hSw); go_simp; first | done | with_reducible rfl))
              (try simp only [Act.put]); (try simp only [List.getElem_toArray]); (try simp only [List.getElem_cons_succ]); (try simp only [List.getElem_cons_zero]); (try simp only [List.setIfInBounds_toArray]); (try simp only [List.set_cons_succ]); (try simp only [List.set_cons_zero])
              (refine wpAnyH_take (i := 3) (v := undef) rfl (by kernel_rfl) (by kernel_rfl) (by kernel_rfl) (fun _ _ _ h => h) (Or.inr ⟨by kernel_rfl, rfl⟩) (by assumption) ?_; (try simp only [Act.put]); (try simp only [List.getElem_toArray]); (try simp only [List.getElem_cons_succ]); (try simp only [List.getElem_cons_zero]); (try simp only [List.setIfInBounds_toArray]); (try simp only [List.set_cons_succ]); (try simp only [List.set_cons_zero]))
              (refine wpAnyH_take (i := 4) (v := undef) rfl (by kernel_rfl) (by kernel_rfl) (by kernel_rfl) (fun _ _ _ h => h) (Or.inr ⟨by kernel_rfl, rfl⟩) (by assumption) ?_; (try simp only [Act.put]); (try simp only [List.getElem_toArray]); (try simp only [List.getElem_cons_succ]); (try simp only [List.getElem_cons_zero]); (try simp only [List.setIfInBounds_toArray]); (try simp only [List.set_cons_succ]); (try simp only [List.set_cons_zero]))
              (refine wpAnyH_take (i := 5) (v := undef) rfl (by kernel_rfl) (by kernel_rfl) (by kernel_rfl) (fun _ _ _ h => h) (Or.inr ⟨by kernel_rfl, rfl⟩) (by assumption) ?_; (try simp only [Act.put]); (try simp only [List.getElem_toArray]); (try simp only [List.getElem_cons_succ]); (try simp only [List.getElem_cons_zero]); (try simp only [List.setIfInBounds_toArray]); (try simp only [List.set_cons_succ]); (try simp only [List.set_cons_zero]))
              (refine wpAnyH_take (i := 6) (v := undef) rfl (by kernel_rfl) (by kernel_rfl) (by kernel_rfl) (fun _ _ _ h => h) (Or.inr ⟨by kernel_rfl, rfl⟩) (by assumption) ?_; (try simp only [Act.put]); (try simp only [List.getElem_toArray]); (try simp only [List.getElem_cons_succ]); (try simp only [List.getElem_cons_zero]); (try simp only [List.setIfInBounds_toArray]); (try simp only [List.set_cons_succ]); (try simp only [List.set_cons_zero]))
              (refine wpAnyH_take (i := 7) (v := undef) rfl (by kernel_rfl) (by kernel_rfl) (by kernel_rfl) (fun _ _ _ h => h) (Or.inr ⟨by kernel_rfl, rfl⟩) (by assumption) ?_; (try simp only [Act.put]); (try simp only [List.getElem_toArray]); (try simp only [List.getElem_cons_succ]); (try simp only [List.getElem_cons_zero]); (try simp only [List.setIfInBounds_toArray]); (try simp only [List.set_cons_succ]); (try simp only [List.set_cons_zero]))
              (refine wpAnyH_take (i := 8) (v := undef) rfl (by kernel_rfl) (by kernel_rfl) (by kernel_rfl) (fun _ _ _ h => h) (Or.inr ⟨by kernel_rfl, rfl⟩) (by assumption) ?_; (try simp only [Act.put]); (try simp only [List.getElem_toArray]); (try simp only [List.getElem_cons_succ]); (try simp only [List.getElem_cons_zero]); (try simp only [List.setIfInBounds_toArray]); (try simp only [List.set_cons_succ]); (try simp only [List.set_cons_zero]))
              (refine wpAnyH_take (i := 9) (v := undef) rfl (by kernel_rfl) (by kernel_rfl) (by kernel_rfl) (fun _ _ _ h => h) (Or.inr ⟨by kernel_rfl, rfl⟩) (by assumption) ?_; (try simp only [Act.put]); (try simp only [List.getElem_toArray]); (try simp only [List.getElem_cons_succ]); (try simp only [List.getElem_cons_zero]); (try simp only [List.setIfInBounds_toArray]); (try simp only [List.set_cons_succ]); (try simp only [List.set_cons_zero]))
              (refine wpAnyH_take (i := 10) (v := undef) rfl (by kernel_rfl) (by kernel_rfl) (by kernel_rfl) (fun _ _ _ h => h) (Or.inr ⟨by kernel_rfl, rfl⟩) (by assumption) ?_; (try simp only [Act.put]); (try simp only [List.getElem_toArray]); (try simp only [List.getElem_cons_succ]); (try simp only [List.getElem_cons_zero]); (try simp only [List.setIfInBounds_toArray]); (try simp only [List.set_cons_succ]); (try simp only [List.set_cons_zero]))
              (refine wpAnyH_take (i := 11) (v := undef) rfl (by kernel_rfl) (by kernel_rfl) (by kernel_rfl) (fun _ _ _ h => h) (Or.inr ⟨by kernel_rfl, rfl⟩) (by assumption) ?_; (try simp only [Act.put]); (try simp only [List.getElem_toArray]); (try simp only [List.getElem_cons_succ]); (try simp only [List.getElem_cons_zero]); (try simp only [List.setIfInBounds_toArray]); (try simp only [List.set_cons_succ]); (try simp only [List.set_cons_zero]))
              (refine wpAnyH_take (i := 12) (v := undef) rfl (by kernel_rfl) (by kernel_rfl) (by kernel_rfl) (fun _ _ _ h => h) (Or.inr ⟨by kernel_rfl, rfl⟩) (by assumption) ?_; (try simp only [Act.put]); (try simp only [List.getElem_toArray]); (try simp only [List.getElem_cons_succ]); (try simp only [List.getElem_cons_zero]); (try simp only [List.setIfInBounds_toArray]); (try simp only [List.set_cons_succ]); (try simp only [List.set_cons_zero]))
              (refine wpAnyH_take (i := 13) (v := undef) rfl (by kernel_rfl) (by kernel_rfl) (by kernel_rfl) (fun _ _ _ h => h) (Or.inr ⟨by kernel_rfl, rfl⟩) (by assumption) ?_; (try simp only [Act.put]); (try simp only [List.getElem_toArray]); (try simp only [List.getElem_cons_succ]); (try simp only [List.getElem_cons_zero]); (try simp only [List.setIfInBounds_toArray]); (try simp only [List.set_cons_succ]); (try simp only [List.set_cons_zero]))
              (refine wpAnyH_take (i := 14) (v := ?_) rfl (by kernel_rfl) (by kernel_rfl) (by kernel_rfl) (fun _ _ _ h => h) (Or.inl ⟨by kernel_rfl, ?_⟩) (by assumption) ?_; rotate_left; · (intro w hSw; (try dsimp only at hSw); go_simp; first | done | with_reducible rfl))
              (try simp only [Act.put]); (try simp only [List.getElem_toArray]); (try simp only [List.getElem_cons_succ]); (try simp only [List.getElem_cons_zero]); (try simp only [List.setIfInBounds_toArray]); (try simp only [List.set_cons_succ]); (try simp only [List.set_cons_zero])
              refine wpAnyH_done (by kernel_rfl) ?_ _
              have B2 := hid (HB.out.trans (hHeld.1.out.1.mono HB.out.size))
              clear hHeld HT y0 y1 y2 y3 y4 y5 y6 y7
              obtain ⟨y0, y1, y2, y3, y4, y5, y6, y7⟩ := HWy.out _ B2.out
              go_upto_region 17 with (go_at_call 38; refine (HGy.out _ B2.out).mono ?_; rintro e w9 ⟨rfl, hb9⟩; have B9 := hid (B2.out.trans (hb9.mono B2.out.size)); have BA := hid (B9.out.trans ((below_new w9 (.cells #[.string y.r, .string y.f, .string y.q, .int .i64 y.t, .int .i64 y.k, .int .i64 y.vk, .int .i64 y.vn, .string y.s] 28)).mono B9.out.size)); obtain ⟨z0, z1, z2, z3, z4, z5, z6, z7⟩ := HWy.out _ BA.out; clear hb9)
              go_quiet (fail)
              go_wp2
              go_roundw
              case rel => exact ⟨1, by omega, by go_num, Go.below_drewN BA.out _⟩
              case measure => simp [intOf]; omega
            | succ k =>
              have hkm : k < d.length := by omega
              obtain ⟨x, hx⟩ : ∃ x, d[k]? = some x := ⟨_, List.getElem?_eq_getElem hkm⟩
              have HWy : Hid (∀ W, Below w7.heap.size w7 W → W.cell? ⟨b, off + (k + 1) * 8, none⟩ = some (.string y.r) ∧ W.cell? ⟨b, off + (k + 1) * 8 + 1, none⟩ = some (.string y.f) ∧ W.cell? ⟨b, off + (k + 1) * 8 + 2, none⟩ = some (.string y.q) ∧ W.cell? ⟨b, off + (k + 1) * 8 + 3, none⟩ = some (.int .i64 y.t) ∧ W.cell? ⟨b, off + (k + 1) * 8 + 4, none⟩ = some (.int .i64 y.k) ∧ W.cell? ⟨b, off + (k + 1) * 8 + 5, none⟩ = some (.int .i64 y.vk) ∧ W.cell? ⟨b, off + (k + 1) * 8 + 6, none⟩ = some (.int .i64 y.vn) ∧ W.cell? ⟨b, off + (k + 1) * 8 + 7, none⟩ = some (.string y.s)) := fun W hb => ct_words (hhc.below hb hbw) (k + 1) hy
              have HOr : Hid (∃ o : Int, o < 0 ∧ ∀ W, Calls Tryd.prog 27 #[x.v, y.v] W fun e w' => e = .returned (.int .i64 o) ∧ Below W.heap.size W w') := ⟨CT.cmp x y, rise_at HRs.out hx hy, fun W => reforder_ct x y (HSm.out x (List.mem_of_getElem? hx)) (HSm.out y (List.mem_of_getElem? hy)) W⟩
              obtain ⟨o, ho, HOq⟩ := HOr.out
              have HOx := hid HOq
              clear HOq HOr
              have hltz : (k : Int) + 1 < (m : Int) := by omega
              have hltp : (0 : Int) < (k : Int) + 1 := by omega
              have hge : (0 : Int) ≤ (k : Int) + 1 := by omega
              have htn : ((k : Int) + 1).toNat = k + 1 := by omega
              have hwj : IntKind.i64.wrap (k : Int) = (k : Int) := by rw [IntKind.wrap_i64]; omega
              have hwj1 : IntKind.i64.wrap ((k : Int) + 1 - 1) = (k : Int) := by rw [IntKind.wrap_i64]; omega
              have hjm : (k : Int) < (m : Int) := by omega
              have hno : ¬ (0 : Int) ≤ o := by omega
              have HT : Hid (PairW wr b (off + k * 8) (off + (k + 1) * 8) x y wr) := ⟨hid ⟨Below.refl _ _, Nat.lt_of_lt_of_le hbw HB.out.size⟩, ct_words (hhc.below HB.out hbw) k hx, ct_words (hhc.below HB.out hbw) (k + 1) hy⟩
              obtain ⟨-, ⟨x0, x1, x2, x3, x4, x5, x6, x7⟩, ⟨y0, y1, y2, y3, y4, y5, y6, y7⟩⟩ := HT.out
              clear hhc hy hx him hkm hlt
              go_upto_region 14 with (fail)
              go_region_held3 (fun W' => Hid (Below wr.heap.size wr W' ∧ b < wr.heap.size) ∧ (W'.cell? ⟨b, off + k * 8, none⟩ = some (.string x.r) ∧ W'.cell? ⟨b, off + k * 8 + 1, none⟩ = some (.string x.f) ∧ W'.cell? ⟨b, off + k * 8 + 2, none⟩ = some (.string x.q) ∧ W'.cell? ⟨b, off + k * 8 + 3, none⟩ = some (.int .i64 x.t) ∧ W'.cell? ⟨b, off + k * 8 + 4, none⟩ = some (.int .i64 x.k) ∧ W'.cell? ⟨b, off + k * 8 + 5, none⟩ = some (.int .i64 x.vk) ∧ W'.cell? ⟨b, off + k * 8 + 6, none⟩ = some (.int .i64 x.vn) ∧ W'.cell? ⟨b, off + k * 8 + 7, none⟩ = some (.string x.s)) ∧ (W'.cell? ⟨b, off + (k + 1) * 8, none⟩ = some (.string y.r) ∧ W'.cell? ⟨b, off + (k + 1) * 8 + 1, none⟩ = some (.string y.f) ∧ W'.cell? ⟨b, off + (k + 1) * 8 + 2, none⟩ = some (.string y.q) ∧ W'.cell? ⟨b, off + (k + 1) * 8 + 3, none⟩ = some (.int .i64 y.t) ∧ W'.cell? ⟨b, off + (k + 1) * 8 + 4, none⟩ = some (.int .i64 y.k) ∧ W'.cell? ⟨b, off + (k + 1) * 8 + 5, none⟩ = some (.int .i64 y.vk) ∧ W'.cell? ⟨b, off + (k + 1) * 8 + 6, none⟩ = some (.int .i64 y.vn) ∧ W'.cell? ⟨b, off + (k + 1) * 8 + 7, none⟩ = some (.string y.s)))
                (first | exact HT.out | exact pair_drew HT.out | exact pair_call (by assumption) hb3 | exact pair_drew (by assumption) | assumption)
                (first | (go_at_call 27; refine (HOx.out _).mono ?_; rintro e w3 ⟨rfl, hb3⟩))
              rename_i hLast
              have B2 := hid (HB.out.trans (hLast.1.out.1.mono HB.out.size))
              clear hLast HT x0 x1 x2 x3 x4 x5 x6 x7 y0 y1 y2 y3 y4 y5 y6 y7
              obtain ⟨y0, y1, y2, y3, y4, y5, y6, y7⟩ := HWy.out _ B2.out
              go_upto_region 17 with (go_at_call 38; refine (HGy.out _ B2.out).mono ?_; rintro e w9 ⟨rfl, hb9⟩; have B9 := hid (B2.out.trans (hb9.mono B2.out.size)); have BA := hid (B9.out.trans ((below_new w9 (.cells #[.string y.r, .string y.f, .string y.q, .int .i64 y.t, .int .i64 y.k, .int .i64 y.vk, .int .i64 y.vn, .string y.s] 28)).mono B9.out.size)); obtain ⟨z0, z1, z2, z3, z4, z5, z6, z7⟩ := HWy.out _ BA.out; clear hb9)
              go_quiet (fail)
              go_wp2
              go_roundw
              case rel => exact ⟨k + 1 + 1, by omega, by go_num, Go.below_drewN BA.out _⟩
              case measure => simp [intOf]; omega
          · obtain rfl : i = m := by omega
            obtain ⟨wm, hwm⟩ : ∃ wm, wm = wr := ⟨_, rfl⟩
            subst hwm
            obtain ⟨m, hmi⟩ : ∃ m, m = i := ⟨_, rfl⟩
            subst hmi
            have HBw : Hid (Below w.heap.size w wm) := B7.out.trans (HB.out.mono B7.out.size)
            have HCr : Hid (ClA wm (.slice A7 m c7) d) := KV.out.below HB.out
            have HMm : Hid (MeS w6.heap.size mb d w6 wm) := MeS.below HMs.out HB.out
            have HCp : Hid (Calls Tryd.prog 28 #[.slice A7 m c7] wm fun e w' => ∃ v', e = .returned v' ∧ CRow w' wm.heap.size v' d ∧ Below wm.heap.size wm w') := copycells_any _ d (by rw [HM.out]; omega) wm HCr.out
            clear HB B7 HMs KV HH
            go_upto_region 20 with (go_at_call 28; refine HCp.out.mono ?_; rintro e w8 ⟨v8, rfl, hr8, hb8⟩)
            have HB8 := hid hb8
            have HR8 := hid hr8
            clear hb8 hr8 HCp
            obtain ⟨A8, c8, rfl, hc8, hm8⟩ := HR8.out.len
            rw [HM.out] at HR8 hc8 ⊢
            go_wp2
            go_loopw [12] (fun vi wq => ∃ (j : Nat) (q : List CT), j ≤ nz ∧ vi = .int .i64 j ∧ Hid (CRow wq wm.heap.size (.slice A8 m c8) q ∧ q.Perm d) ∧ Hid (Below wm.heap.size wm wq)) (fun vi _ => nz - (intOf vi).toNat)
            case atStart => exact ⟨0, d, Nat.zero_le _, rfl, ⟨HR8.out, List.Perm.refl _⟩, HB8.out⟩
            case round =>
              clear HR8 HB8
              obtain ⟨j, q, hj, rfl, HQ, HBq⟩ := hrel
              have hql : q.length = m := HQ.out.2.length_eq.trans HM.out
              by_cases hlt : j < nz ∧ 0 < m
              · obtain ⟨hjn, hm0⟩ := hlt
                have hjz : (j : Int) < (nz : Int) := by omega
                have hiz : (0 : Int) < (m : Int) := by omega
                obtain ⟨b2, off2, rfl, hb2, hzc⟩ := HZ2.out (by rw [HNZ.out]; omega)
                have z0 : wr.cell? ⟨b2, off2 + j, none⟩ = some (.int .i64 (zs.getD j 0)) := by
                  rw [(HBw.out.trans (HBq.out.mono HBw.out.size)).cell (p := ⟨b2, off2 + j, none⟩) hb2]
                  exact hzc j (by rw [HNZ.out]; exact hjn)
                obtain ⟨z, hz⟩ : ∃ z, zs.getD j 0 = z := ⟨_, rfl⟩
                rw [hz] at z0
                clear hzc hz
                obtain ⟨x, hx⟩ : ∃ x, bits .and .i64 z 1023 = x := ⟨_, rfl⟩
                have hx0 : 0 ≤ x ∧ x ≤ 1023 := hx ▸ and_1023 z
                obtain ⟨hx1, hx2⟩ := hx0
                go_upto_region 25 with (fail)
                obtain ⟨a, ha⟩ : ∃ a : Nat, x % (m : Int) = (a : Int) := ⟨(x % (m : Int)).toNat, by have := Int.emod_nonneg x (b := (m : Int)) (by omega); omega⟩
                have hai : a < m := by have := Int.emod_lt_of_pos x hiz; omega
                obtain ⟨p, hp⟩ : ∃ p : Nat, (j : Int) % (m : Int) = (p : Int) := ⟨j % m, by simp⟩
                have hpi : p < m := by have := Int.emod_lt_of_pos (j : Int) hiz; omega
                rw [ha, hp]
                clear ha hp hx hx1 hx2 z0
                obtain ⟨g, rfl, hrow, hwg, -⟩ := crow_rowB HQ.out.1 (by omega)
                have hqa : a < q.length := by omega
                have hqe : p < q.length := by omega
                obtain ⟨ca, hca⟩ : ∃ c, q[a] = c := ⟨_, rfl⟩
                obtain ⟨cp, hcp⟩ : ∃ c, q[p] = c := ⟨_, rfl⟩
                have HR2 := hid (hrow.swap hqa hqe hca hcp)
                have HP2 := hid ((swap_perm hqa hqe).trans HQ.out.2)
                have P := hrow.words a hqa
                have Pd := hrow.words p hqe
                rw [hca] at P
                rw [hcp] at Pd
                have hfr : ∀ o, wr.frozen? ⟨g, o, none⟩ = false := fun o => hrow.free o
                have HBs : Hid (Below wm.heap.size wm (set8 (set8 wr g (a * 8) cp) g (p * 8) ca)) := below_set8 (below_set8 HBq.out hwg) hwg
                obtain ⟨p0, p1, p2, p3, p4, p5, p6, p7⟩ := P
                obtain ⟨d0, d1, d2, d3, d4, d5, d6, d7⟩ := Pd
                have haz : (a : Int) < (m : Int) := by omega
                have hpz : (p : Int) < (m : Int) := by omega
                have O0 := hrow.own
                have O1 := O0.set (a * 8) (.string cp.r)
                obtain ⟨u0, y0⟩ := O1.get (p * 8) (by omega)
                have O2 := O1.set (a * 8 + 1) (.string cp.f)
                obtain ⟨u1, y1⟩ := O2.get (p * 8 + 1) (by omega)
                have O3 := O2.set (a * 8 + 2) (.string cp.q)
                obtain ⟨u2, y2⟩ := O3.get (p * 8 + 2) (by omega)
                have O4 := O3.set (a * 8 + 3) (.int .i64 cp.t)
                obtain ⟨u3, y3⟩ := O4.get (p * 8 + 3) (by omega)
                have O5 := O4.set (a * 8 + 4) (.int .i64 cp.k)
                obtain ⟨u4, y4⟩ := O5.get (p * 8 + 4) (by omega)
                have O6 := O5.set (a * 8 + 5) (.int .i64 cp.vk)
                obtain ⟨u5, y5⟩ := O6.get (p * 8 + 5) (by omega)
                have O7 := O6.set (a * 8 + 6) (.int .i64 cp.vn)
                obtain ⟨u6, y6⟩ := O7.get (p * 8 + 6) (by omega)
                have O8 := O7.set (a * 8 + 7) (.string cp.s)
                obtain ⟨u7, y7⟩ := O8.get (p * 8 + 7) (by omega)
                clear O0 O1 O2 O3 O4 O5 O6 O7 O8
                have HC3 : Hid (CRow (set8 (set8 wr g (a * 8) cp) g (p * 8) ca).drew wm.heap.size (.slice (some ⟨g, 0, none⟩) m c8) (swapC q a p)) := by
                  have h3 := (HR2.out.keep (Below.refl _ _).drew).row hwg
                  rw [swap_len, hql] at h3
                  exact h3
                have HBs3 := hid HBs.out.drew
                clear hca hcp hrow hwg hqa hqe hql HQ HR2 HBs
                go_region
                go_wp2
                go_roundw
                case rel => exact ⟨j + 1, swapC q a p, by omega, by go_num, ⟨HC3.out, HP2.out⟩, HBs3.out⟩
                case measure => simp [intOf]; omega
              · have hstop : ¬ (j : Int) < (nz : Int) ∨ ((j : Int) < (nz : Int) ∧ ¬ (0 : Int) < (m : Int)) := by omega
                obtain ⟨wn, hwn⟩ : ∃ wn, wn = wr := ⟨_, rfl⟩
                subst hwn
                have HKq := hid HQ.out.1.cla
                have HKs : Hid (ClA wn (.slice A7 m c7) d) := HCr.out.below HBq.out
                have HMn : Hid (MeS w6.heap.size mb d w6 wn) := MeS.below HMm.out HBq.out
                have HBn : Hid (Below w.heap.size w wn) := HBw.out.trans (HBq.out.mono HBw.out.size)
                have HPq := hid HQ.out.2
                have HOq : Hid (∀ c ∈ q, c.ok = true ∧ okC c ∧ c.s.size ≤ 1000) := fun c hc => HOk.out c (HPq.out.mem_iff.1 hc)
                have HLn : Hid (LaidU wn) := HLa.out.below HBn.out
                have HAp := hid (apart_of HRs.out HPq.out)
                have HAll : Hid (∀ d2, heldT q d2 m → d2.Pairwise (fun x y => CT.cmp x y < 0) → d2 = d) := fun d2 h1 h2 => held_all HRs.out h2 HPq.out (by rw [hql]; exact h1)
                clear HQ HBq HBw HCr HMm hlt HOk HSm
                obtain ⟨A8b, c8b, e8b, hc8b, hm8b, hh8⟩ := HKq.out
                injection e8b with q1 q2 q3
                subst q1 q3
                clear q2
                have HH8 := hid hh8
                have HQL := hid hql
                clear hh8 hql hc8b hm8b
                have HD8 : Hid (d.length = m) := HM.out
                clear HM
                rcases hstop with g | ⟨g, g9⟩
                all_goals (
                  go_wp2_with (go_at_call 34; refine (new_any _).mono ?_; rintro e w1 ⟨nb, rfl, hM1, hb1⟩; have HS2 := ms_new hM1 hb1; clear hM1 hb1)
                  go_loopw [16] (fun vi wq => ∃ (j2 : Nat) (d2 : List CT), j2 ≤ m ∧ vi = .int .i64 j2 ∧ d2.length ≤ j2 ∧ MeS wn.heap.size nb d2 wn wq ∧ Hid (heldT q d2 j2)) (fun vi _ => m - (intOf vi).toNat)
                  case atStart => exact ⟨0, [], Nat.zero_le _, rfl, Nat.le_refl _, HS2, held_zero q⟩
                  case round =>
                    clear HS2
                    obtain ⟨j2, d2, hj2, rfl, hd2, HS, HH2⟩ := hrel
                    by_cases hlt : j2 < m
                    · have hjq : j2 < q.length := by rw [HQL.out]; exact hlt
                      obtain ⟨b, off, e, hhc⟩ := HH8.out (by omega)
                      subst e
                      have hbw : b < wn.heap.size := hhc.lt (by omega)
                      have hltz : (j2 : Int) < (m : Int) := by omega
                      obtain ⟨c, hc⟩ : ∃ c, q[j2]? = some c := ⟨_, List.getElem?_eq_getElem hjq⟩
                      have hcq : c ∈ q := List.mem_of_getElem? hc
                      have HPc := hid (mes_put HS HLn.out (Nat.le_refl _) (HOq.out c hcq).2.1 (HOq.out c hcq).2.2 (by omega))
                      have HH3 : Hid (heldT q (putR d2 c) (j2 + 1)) := held_next HH2.out hc (fun c hc => (HOq.out c hc).1) HAp.out
                      obtain ⟨q0, q1, q2, q3, q4, q5, q6, q7⟩ := ct_words (hhc.below HS.out.2.1.b hbw) j2 hc
                      clear hhc hcq hjq hc
                      go_wp2_with (go_at_call 35; refine HPc.out.mono ?_; rintro e w9 ⟨rfl, HS9⟩)
                      go_roundw
                      case rel => exact ⟨j2 + 1, putR d2 c, by omega, by go_num, by have := putR_len d2 c; omega, HS9, HH3.out⟩
                      case measure => simp [intOf]; omega
                    · obtain rfl : j2 = m := by omega
                      have E : d = d2 := (HAll.out d2 HH2.out HS.out.1.rise).symm
                      subst E
                      have hB0 := hid HS.out.2.1.b
                      have HAx := hid (allC_any nb wn.heap.size d (by omega) wr HS.out.1)
                      have HKs2 := hid (HKs.out.below hB0.out)
                      have HM2 : Hid (MeS w6.heap.size mb d w6 wr) := MeS.below HMn.out hB0.out
                      obtain ⟨bx, hbx⟩ : ∃ bx, bytesL d = bx := ⟨_, rfl⟩
                      have HB1 : Hid (∀ W, Below wr.heap.size wr W → Calls Tryd.prog 43 #[.pointer (some ⟨nb, 0, none⟩)] W fun e w' => e = .returned (.int .i64 (bx : Int)) ∧ w' = W) := fun W hb => hbx ▸ bytes_any nb _ _ W (MeS.below HS hb).out.1
                      have HB2 : Hid (∀ W, Below wr.heap.size wr W → Calls Tryd.prog 43 #[.pointer (some ⟨mb, 0, none⟩)] W fun e w' => e = .returned (.int .i64 (bx : Int)) ∧ w' = W) := fun W hb => hbx ▸ bytes_any mb _ _ W (MeS.below HM2.out hb).out.1
                      have HC1 : Hid (∀ W, Below wr.heap.size wr W → Calls Tryd.prog 37 #[.pointer (some ⟨nb, 0, none⟩)] W fun e w' => e = .returned (.int .i64 (j2 : Int)) ∧ w' = W) := fun W hb => HD8.out ▸ count_any nb _ _ W (MeS.below HS hb).out.1
                      have HC2 : Hid (∀ W, Below wr.heap.size wr W → Calls Tryd.prog 37 #[.pointer (some ⟨mb, 0, none⟩)] W fun e w' => e = .returned (.int .i64 (j2 : Int)) ∧ w' = W) := fun W hb => HD8.out ▸ count_any mb _ _ W (MeS.below HM2.out hb).out.1
                      clear HS HH2 hd2 hbx HM2 HMn HKs HAll HAp HOq HLn HH8 HQL HPq
                      go_wp2_with (first
                        | (go_at_call 40; have hq := HAx.out; refine hq.mono ?_; clear hq; rintro e wa ⟨va, rfl, hra, hba⟩; have hKa := hid hra.cla; have hBa := hid hba; clear hra hba)
                        | (go_at_call 29; have hq := samecells_any _ _ _ _ wa hKa.out (HKs2.out.below hBa.out); rw [show decide (d = d) = true from decide_eq_true rfl] at hq; refine hq.mono ?_; clear hq; rintro e wb ⟨rfl, hbb⟩; have hBb := hid (hBa.out.trans (hbb.mono hBa.out.size)); clear hbb)
                        | (go_at_call 43; have hq := HB1.out _ hBb.out; refine hq.mono ?_; clear hq; rintro e w9 ⟨rfl, e9⟩; subst e9)
                        | (go_at_call 43; have hq := HB2.out _ hBb.out; refine hq.mono ?_; clear hq; rintro e w9 ⟨rfl, e9⟩; subst e9)
                        | (go_at_call 37; have hq := HC1.out _ hBb.out; refine hq.mono ?_; clear hq; rintro e w9 ⟨rfl, e9⟩; subst e9)
                        | (go_at_call 37; have hq := HC2.out _ hBb.out; refine hq.mono ?_; clear hq; rintro e w9 ⟨rfl, e9⟩; subst e9))
                      go_ret
                      exact ⟨rfl, HBn.out.trans ((hB0.out.trans (hBb.out.mono hB0.out.size)).mono HBn.out.size)⟩)
end Go.Proofs.YtdjaofbjmnmlbaaDoor

/- A world in which the listed variables of layer 3's laws are laid, for the witness; what they give; a cell of the law's, shut. -/
namespace Go.Proofs.YtdjaofbjmnmlbaaDoor
open Go.ChangeShapes Go.WideShapes Go.ChangeAt Go.RowKit Go.Joins

theorem seat_own : ownKnob Tryd.prog.godebug = none := by kernel_rfl
theorem laid_out : laidOutB Tryd.prog = true := by kernel_rfl
def seatLaid5 : List (String × DataW Unit) := [("unicode/utf8.acceptRanges", Rows.laid_unicode_utf8_acceptRanges), ("bytes.ErrTooLarge", Rows.laid_bytes_ErrTooLarge), ("unicode/utf8.first", Rows.laid_unicode_utf8_first)]
theorem seat_met5 {W : World} (h : laidMetH Tryd.prog seatLaid5 W) : laidMet Tryd.prog seatLaid5 W := h
theorem accept_is : (Rows.laid_unicode_utf8_acceptRanges : DataW Unit) = Lib.acceptData := by kernel_rfl
theorem first_is : (Rows.laid_unicode_utf8_first : DataW Unit) = Lib.firstData := by kernel_rfl
theorem u8extra : U8Extra Tryd.prog Tryd.lays196_ren where
  n3 := by kernel_rfl
  n4 := by kernel_rfl
  y3 := by kernel_rfl
  y4 := by kernel_rfl
  c5 := by kernel_rfl
  c119 := by kernel_rfl
  c138 := by kernel_rfl
theorem laid_u {W : World} (h : laidMet Tryd.prog seatLaid5 W) : LaidU W := ⟨by
    have h3 := Lib.laidMet.reads h (n := "unicode/utf8.first") (d := Rows.laid_unicode_utf8_first) (by simp [seatLaid5])
    have h4 := Lib.laidMet.reads h (n := "unicode/utf8.acceptRanges") (d := Rows.laid_unicode_utf8_acceptRanges) (by simp [seatLaid5])
    rw [first_is] at h3
    rw [accept_is] at h4
    exact utf8Tabs_of_readsT (U8Types.of196 Tryd.lays196) u8extra h3 h4⟩

/-- A world for the witness: the settled one, one block more for the error's text, the listed variables holding what their initialisers lay. -/
noncomputable def laidWorld5 (os : Os) : World :=
  let w0 := World.holding Tryd.prog os ⟨#[.cells #[.string ⟨#[98, 121, 116, 101, 115, 46, 66, 117, 102, 102, 101, 114, 58, 32, 116, 111, 111, 32, 108, 97, 114, 103, 101]⟩] 222], #[], []⟩
  { w0 with heap := ((w0.heap.modify 1 fun
      | .cells _ t frozen => .cells #[.iface 208 (.pointer (some ⟨(World.settled Tryd.prog os).heap.size, 0, none⟩))] t frozen
      | o => o).modify 3 fun
      | .cells _ t frozen => .cells ((List.range 16).flatMap fun i => [Value.int .u8 (Lib.accLo i), Value.int .u8 (Lib.accHi i)]).toArray t frozen
      | o => o).modify 2 fun
      | .cells _ t frozen => .cells (Lib.firstTab.map fun z => Value.int .u8 z).toArray t frozen
      | o => o }
set_option maxRecDepth 1000000 in
theorem laid_met5 (os : Os) (args : Array Value) : laidMet Tryd.prog seatLaid5 ((laidWorld5 os).forCall (fun _ _ => 0) ⟨#[], args, []⟩).memory :=
  laidMet_of_run' 8 (by kernel_rfl) (by kernel_rfl)
theorem inI_of_wf {n : Int} (h : (Lit.int .i64 n).wf = true) : inI n := by
  unfold inI
  simp [Lit.wf] at h
  have h1 : IntKind.i64.min = -9223372036854775808 := rfl
  have h2 : IntKind.i64.max = 9223372036854775807 := rfl
  omega
theorem size_of {n : Nat} (h : n ≤ maxLen) : n ≤ 9223372036854775807 := by unfold maxLen at h; omega

section
variable {H : Type} {enc : TypeId × Value → H} {W : World} {sp : Nat → Bool}
set_option maxRecDepth 100000 in
/-- A cell that came in, shut. -/
theorem shut_cell (r f q : ByteArray) (t k vk vn : Int) (s : ByteArray) (w0 : r.size ≤ maxLen) (w1 : f.size ≤ maxLen) (w2 : q.size ≤ maxLen) (w3 : (Lit.int .i64 t).wf = true) (w4 : (Lit.int .i64 k).wf = true) (w5 : (Lit.int .i64 vk).wf = true) (w6 : (Lit.int .i64 vn).wf = true) (w7 : s.size ≤ maxLen) (b1 : Nat) :
    DataW.Trod enc Tryd.prog W b1 sp true 28 (.agg #[.string r, .string f, .string q, .int .i64 t, .int .i64 k, .int .i64 vk, .int .i64 vn, .string s]) (.agg [.lit (.string r.data.toList), .lit (.string f.data.toList), .lit (.string q.data.toList), .lit (.int .i64 t), .lit (.int .i64 k), .agg [.lit (.int .i64 vk), .lit (.int .i64 vn), .lit (.string s.data.toList)]]) [] := by
  have hv : DataW.trod enc Tryd.prog W b1 sp true 2 26 [.int .i64 vk, .int .i64 vn, .string s] = some (.agg [.lit (.int .i64 vk), .lit (.int .i64 vn), .lit (.string s.data.toList)], []) := by
    have := trod_struct_mk (enc := enc) (w := W) (base := b1) (spare := sp) (held := true) (n := 1) (cs := [.int .i64 vk, .int .i64 vn, .string s]) (xs := [(.lit (.int .i64 vk), []), (.lit (.int .i64 vn), []), (.lit (.string s.data.toList), [])]) Tryd.underlying26 (by simp [cellsV3]) (by simp [DataW.trod, Tryd.underlying3, Tryd.underlying9, cellsS1, cellsI1, w5, w6, w7])
    simpa using this
  have := trod_struct_mk (enc := enc) (w := W) (base := b1) (spare := sp) (held := true) (n := 2) (cs := [.string r, .string f, .string q, .int .i64 t, .int .i64 k, .int .i64 vk, .int .i64 vn, .string s]) (xs := [(.lit (.string r.data.toList), []), (.lit (.string f.data.toList), []), (.lit (.string q.data.toList), []), (.lit (.int .i64 t), []), (.lit (.int .i64 k), []), (.agg [.lit (.int .i64 vk), .lit (.int .i64 vn), .lit (.string s.data.toList)], [])]) Tryd.underlying28 (by simp [cellsC]) (by
      simp [cellsS1, cellsI1, cellsV3, hv]
      simp [DataW.trod, Tryd.underlying3, Tryd.underlying9, w0, w1, w2, w3, w4])
  exact ⟨3, by simpa [Value.cells] using this⟩
end
end Go.Proofs.YtdjaofbjmnmlbaaDoor

/- Lists of cells that came in, opened. Conditions: the reading's own reach. -/
namespace Go.Proofs.YtdjaofbjmnmlbaaDoor
open Go.ChangeShapes Go.WideShapes Go.ChangeAt Go.RowKit Go.Joins

theorem inI_of_wf2 {n : Int} (h : (Lit.int .i64 n).wf = true) : inI n := by
  unfold inI
  simp [Lit.wf] at h
  have h1 : IntKind.i64.min = -9223372036854775808 := rfl
  have h2 : IntKind.i64.max = 9223372036854775807 := rfl
  omega

section
variable {H : Type} {enc : TypeId × Value → H} {W : World} {sp : Nat → Bool}
set_option maxRecDepth 100000 in
/-- Eight words that read as a cell are one. -/
theorem cell_words {b1 fuel : Nat} {cs : List Value} {x : DataW H × List MemPlace} (hl : cs.length = 8) (hf : DataW.trod enc Tryd.prog W b1 sp true fuel 28 cs = some x) : ∃ c : CT, cs = c.e ∧ inI c.vn := by
  match cs, hl with
  | [c0, c1, c2, c3, c4, c5, c6, c7], _ =>
    obtain ⟨xs, n, _, hx, _, hlen, hg⟩ := DataW.trod_struct Tryd.underlying28 hf
    match xs, hlen with
    | [y0, y1, y2, y3, y4, y5], _ =>
      have h0 := hg 0 _ rfl
      have h1 := hg 1 _ rfl
      have h2 := hg 2 _ rfl
      have h3 := hg 3 _ rfl
      have h4 := hg 4 _ rfl
      have h5 := hg 5 _ rfl
      simp [cellsS1, cellsI1, cellsV3] at h0 h1 h2 h3 h4 h5
      obtain ⟨r, e0, z0, w0⟩ := DataW.trod_string Tryd.underlying9 h0
      obtain ⟨f, e1, z1, w1⟩ := DataW.trod_string Tryd.underlying9 h1
      obtain ⟨q, e2, z2, w2⟩ := DataW.trod_string Tryd.underlying9 h2
      obtain ⟨t, e3, z3, w3⟩ := DataW.trod_int Tryd.underlying3 h3
      obtain ⟨k, e4, z4, w4⟩ := DataW.trod_int Tryd.underlying3 h4
      obtain ⟨ys, n', _, hx', _, hlen', hg'⟩ := DataW.trod_struct Tryd.underlying26 h5
      match ys, hlen' with
      | [u0, u1, u2], _ =>
        have g0 := hg' 0 _ rfl
        have g1 := hg' 1 _ rfl
        have g2 := hg' 2 _ rfl
        simp [cellsS1, cellsI1] at g0 g1 g2
        obtain ⟨vk, e5, z5, w5⟩ := DataW.trod_int Tryd.underlying3 g0
        obtain ⟨vn, e6, z6, w6⟩ := DataW.trod_int Tryd.underlying3 g1
        obtain ⟨s, e7, z7, w7⟩ := DataW.trod_string Tryd.underlying9 g2
        simp at e0 e1 e2 e3 e4 e5 e6 e7
        subst e0 e1 e2 e3 e4 e5 e6 e7
        exact ⟨⟨r, f, q, t, k, vk, vn, s⟩, rfl, inI_of_wf2 w6⟩
theorem addr_at (b off n : Nat) : (⟨b, off, none⟩ : Addr).add n = ⟨b, off + n, none⟩ := by
  by_cases h : n = 0
  · subst h; rfl
  · simp [Addr.add, h]
theorem bind_some {α β : Type} {o : Option α} {g : α → Option β} {y : β} (h : o.bind g = some y) : ∃ x, o = some x ∧ g x = some y := by
  cases o with
  | none => cases h
  | some x => exact ⟨x, rfl, h⟩
/-- A choice for each of the first n numbers is a list. -/
theorem list_of {P : Nat → CT → Prop} : ∀ n : Nat, (∀ i, i < n → ∃ c, P i c) → ∃ l : List CT, l.length = n ∧ ∀ i (h : i < l.length), P i l[i]
  | 0, _ => ⟨[], rfl, fun i h => absurd h (by simp)⟩
  | n + 1, h => by
    obtain ⟨l, h1, h2⟩ := list_of n (fun i hi => h i (by omega))
    obtain ⟨c, hc⟩ := h n (by omega)
    refine ⟨l ++ [c], by simp [h1], fun i hi => ?_⟩
    rcases Nat.lt_or_ge i l.length with h3 | h3
    · rw [List.getElem_append_left h3]; exact h2 i h3
    · have : i = n := by simp at hi; omega
      subst this
      rw [List.getElem_append_right h3]
      simp only [h1, Nat.sub_self, List.getElem_cons_zero]
      exact hc
set_option maxRecDepth 100000 in
/-- A list of cells that came in. -/
theorem open_cla {r : Reach} {b0 b1 : Nat} {v : Value} {d : DataW H} {p : List MemPlace} (hv : Value.okWide Tryd.prog W r b0 39 v) (h : DataW.Trod enc Tryd.prog W b1 (fun _ => true) true 39 v d p) : ∃ l, ClA W v l ∧ ∀ c ∈ l, inI c.vn := by
  obtain ⟨a0, len, cap, rfl⟩ := okWide_slice Tryd.underlying39 hv
  obtain ⟨fuel, hf⟩ := h
  rcases DataW.trod_slice Tryd.underlying39 hf with ⟨hcs, hx⟩ | ⟨a, len', cap', elems, rest, n, hfu, hcs, hx, hb, hl, hm, he, hi, _, _⟩
  · simp [Value.cells] at hcs
    obtain ⟨rfl, rfl, rfl⟩ := hcs
    exact ⟨[], cla_nil W, fun c h => by cases h⟩
  · simp [Value.cells] at hcs
    obtain ⟨rfl, rfl, rfl⟩ := hcs
    rw [cellsC] at hi
    have hP : ∀ i, i < len → ∃ c : CT, (∀ j, j < 8 → W.cell? (a.add (i * 8 + j)) = c.e[j]?) ∧ inI c.vn := fun i hi' => by
      have h1 := hi i hi'
      rw [List.getElem?_eq_getElem (by omega)] at h1
      obtain ⟨cs, hcs, htr⟩ := bind_some h1
      obtain ⟨_, hlen, hcell⟩ := World.cells?_some hcs
      obtain ⟨c, rfl, hvn⟩ := cell_words hlen htr
      refine ⟨c, fun j hj => ?_, hvn⟩
      have := hcell j hj
      rw [Addr.add_add] at this
      exact this
    obtain ⟨l, hlen, hall⟩ := list_of len hP
    have hmx : cap ≤ 9223372036854775807 := by unfold maxLen at hm; omega
    refine ⟨l, ⟨some a, cap, by rw [hlen], by omega, hmx, fun h0 => ?_⟩, fun c hc => ?_⟩
    · obtain ⟨b, off, spot⟩ := a
      have h00 := (hall 0 h0).1 0 (by omega)
      have hspot : spot = none := by
        have h0' : W.cell? ((⟨b, off, spot⟩ : Addr).add 0) = some (.string l[0].r) := h00
        simpa [Addr.add] using World.cell?_spot h0'
      subst hspot
      refine ⟨b, off, rfl, fun i hi' j hj => ?_⟩
      have := (hall i hi').1 j hj
      rw [← this]
      rw [addr_at, Nat.add_assoc]
    · obtain ⟨i, hi', rfl⟩ := List.getElem_of_mem hc
      exact (hall i hi').2
end
end Go.Proofs.YtdjaofbjmnmlbaaDoor

/- MemOrder: cells are in order, however they were put. The row and its tied card. Conditions: none but the card's own (the listed variables of the library are laid by the program's text). -/
namespace Go.Proofs.YtdjaofbjmnmlbaaDoor.memOrder
open Go.ChangeShapes Go.WideShapes Go.ChangeAt Go.RowKit

set_option maxRecDepth 100000 in
/-- What the walk gives, for every argument and every world that holds the listed variables. -/
theorem contract (H : Type) (enc : TypeId × Value → H) (W : World) (base : Nat) (args : Array Value) (ds gs : List (DataW H)) (before : List MemPlace)
    (hval : ∀ (j : Nat) t v, Tryd.f9.params[j]? = some t → args[j]? = some v → Value.okWide Tryd.prog W .any base t v)
    (hW : DataW.Whole enc Tryd.prog Tryd.f9.params.toList Rows.memOrderSpec.vars false W args.toList ds gs before) (hL : laidMetH Tryd.prog Rows.memOrderRow.laid W) :
    Calls Tryd.prog 9 args W fun e W' => ∃ v, e = .returned v ∧ Rows.memOrderSpec.post enc Tryd.prog Tryd.f9 false true false false W args v W' := by
  have hW' := hW
  obtain ⟨p, q, hA0, hV, rfl, hfz, hnd⟩ := hW
  have hA : DataW.TrodAll enc Tryd.prog W 0 (fun _ => true) true Tryd.f9.params.toList args.toList ds p := hA0
  rw [Tryd.params9] at hA hval
  obtain ⟨v0, vs0, d0, ds0, p0, q_0, hargs, rfl, rfl, h0, r_0⟩ := trodAll_cons hA
  obtain ⟨v1, vs1, d1, ds1, p1, q_1, rfl, rfl, rfl, h1, r_1⟩ := trodAll_cons r_0
  obtain ⟨rfl, rfl, rfl⟩ := trodAll_nil r_1
  obtain rfl : args = #[v0, v1] := by cases args; simp_all
  obtain ⟨rfl, rfl⟩ := trodVars_none hV
  obtain ⟨l0, hs0, hv0⟩ := open_cla (hval 0 39 v0 rfl rfl) h0
  obtain ⟨l1, hs1, hv1⟩ := open_inta (hval 1 40 v1 rfl rfl) h1
  clear hA0
  simp only [List.append_nil] at hW'
  have hL2 : LaidU W := laid_u (seat_met5 hL)
  have hlt0 : ∀ x ∈ p0, x.block < W.heap.size := fun x hx => by simpa using hW'.lt x (by simp [hx])
  have hlt1 : ∀ x ∈ p1, x.block < W.heap.size := fun x hx => by simpa using hW'.lt x (by simp [hx])
  refine (memorder_any v0 v1 l0 l1 W hs0 hv0 hs1 hv1 hL2).mono fun e W' ⟨he, hg⟩ => ?_
  subst he
  exact ⟨_, rfl, _, _, _, [], (p0 ++ (p1 ++ [])), [], hW', trodAll_cons_mk (shut_bool Tryd.underlying4 _) trodAll_mk0, (trodAll_cons_mk (Below.trod laid_out (by kernel_rfl) (of_decide_eq_true (by kernel_rfl)) h0 hg hlt0) (trodAll_cons_mk (Below.trod laid_out (by kernel_rfl) (of_decide_eq_true (by kernel_rfl)) h1 hg hlt1) trodAll_mk0)), rfl, hg.frame _, fun h => by cases h⟩

theorem reads (os : Os) (H : Type) (enc : TypeId × Value → H) : ∃ places, DataW.whole enc Tryd.prog ((laidWorld5 os).forCall (fun _ _ => 0) ⟨#[], #[.slice none 0 0, .slice none 0 0], []⟩).memory Tryd.f9.params.toList Rows.memOrderSpec.vars false #[Value.slice none 0 0, Value.slice none 0 0].toList 12 = some ([.nil, .nil], [], places) :=
  ⟨[], by kernel_rfl⟩

set_option maxRecDepth 100000 in
theorem lifted (os : Os) (started : os.Started) (H : Type) (enc : TypeId × Value → H) (F : Stop.Interp) :
    ReturnsInHanded {} Tryd.checked os 9 .any ((OpenSpec.ofChange Rows.memOrderSpec).preRow enc Tryd.prog Tryd.f9 Rows.memOrderRow.domain false Rows.memOrderRow.laid) (((OpenSpec.ofChange Rows.memOrderSpec).at F).post enc Tryd.prog Tryd.f9 false true false false) := by
  obtain ⟨places, hx⟩ := reads os H enc
  refine returnsInHanded_of_row (C := Tryd.checked) (s := OpenSpec.ofChange Rows.memOrderSpec) seat_own started (by kernel_rfl) Tryd.func9
    (witness_row_at (enc := enc) (C := Tryd.checked) false (laidWorld5 os) #[.slice none 0 0, .slice none 0 0] rfl (by kernel_rfl) (by kernel_rfl) (by kernel_rfl)
      (OpenSpec.preRow_of_cond 12 hx (by kernel_rfl) (fun k hk => by cases hk) (by kernel_rfl) (laid_met5 os _))) ?_
  intro W base args ds gs before hval hW _ _ _ hL _ _
  exact contract H enc W base args ds gs before hval hW hL

theorem said : Rows.MemOrderSaid :=
  OpenClaim.holds_of_cond 9 Tryd.f9 rfl rfl rfl rfl rfl rfl rfl ⟨rfl, rfl, rfl, rfl, rfl⟩ rfl rfl rfl rfl rfl (by kernel_rfl) Tryd.func9 (by kernel_rfl)
    (of_decide_eq_true (by kernel_rfl)) (by unfold Func.isWrapper; first | (rw [if_pos (by decide +kernel)]; kernel_rfl) | (rw [if_neg (by decide +kernel)]; exact ⟨rfl, rfl⟩))
    (fun os started H enc _ F => by rw [OpenClaim.pre_eq_preRow]; exact lifted os started H enc F)

theorem plain (f : FuncId) (fn : Func) (hf : Tryd.pinned.checked.prog.funcNamed "joist/joistlaw07.MemOrder" = some f) (hfn : Tryd.pinned.checked.prog.funcs[f]? = some fn) :
    true = Tryd.pinned.checked.prog.looks [] ∧ ∀ (j : Nat) t, fn.params[j]? = some t → Tryd.pinned.checked.prog.wantsStandIn t = false := by
  obtain rfl : f = 9 := Option.some.inj ((show Tryd.prog.funcNamed "joist/joistlaw07.MemOrder" = some 9 by kernel_rfl).symm.trans hf) |>.symm
  obtain rfl : fn = Tryd.f9 := (Option.some.inj (Tryd.func9.symm.trans hfn)).symm
  refine ⟨by kernel_rfl, fun j t ht => ?_⟩
  rw [Tryd.params9] at ht
  have hm := Array.mem_of_getElem? ht
  rcases (show t = 39 ∨ t = 40 by simpa using hm) with rfl | rfl
  · exact (show Tryd.prog.wantsStandIn 39 = false by kernel_rfl)
  · exact (show Tryd.prog.wantsStandIn 40 = false by kernel_rfl)

/-- THE CARD. -/
theorem card : Rows.MemOrderCardSaid :=
  Claim7.holds_tied_plain_at .later [] _ _ _ _ said (fun _ h => by cases h) (by kernel_rfl) (fun _ h => by cases h) memOrder_row_tie rfl ⟨rfl, rfl⟩ (by kernel_rfl) rfl plain (by kernel_rfl)
end Go.Proofs.YtdjaofbjmnmlbaaDoor.memOrder
namespace Go.Proofs.YtdjaofbjmnmlbaaDoor
theorem memOrder_card : Rows.MemOrderCardSaid := memOrder.card
end Go.Proofs.YtdjaofbjmnmlbaaDoor
