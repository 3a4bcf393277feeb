/- The statement of layer 8: cells that are packed come back; cut short, or with a byte more, nothing does. Conditions: the arguments stand, their numbers are of 64 bits; the tables of utf8 read as they are laid. -/
import Derived.Test.YtfcnobcpnhfgmaaDoorNR
import Derived.Test.YtfcnobcpnhfgmaaDoorQ4
namespace Go.Proofs.YtfcnobcpnhfgmaaDoor
open Go.RowKit

theorem empty_row8 (W : World) (B : Nat) (hB : B ≤ W.heap.size) : Row (W.alloc (.cells #[] 5)) B (.slice (some ⟨W.heap.size, 0, none⟩) 0 0) [] := Row.new W B hB [] (by unfold maxLen; simp)
theorem sla_ha8 {w : World} {A : Option Addr} {c : Nat} {l : List UInt8} (h : SlA w (.slice A l.length c) l) : HoldsA w A l := by
  obtain ⟨A', c', e, _, _, h4, _⟩ := h
  injection e with e1
  subst e1
  exact h4
set_option maxHeartbeats 1000000 in
theorem copyb_any (v : Value) (l : List UInt8) (hl : l.length ≤ 1000000) (w : World) (h : SlA w v l) :
    Calls Tryd.prog 15 #[v] w fun e w' => ∃ v', e = .returned v' ∧ Row w' w.heap.size v' l ∧ Below w.heap.size w w' := by
  have HS := hid h
  obtain ⟨A, c, rfl, _⟩ := h
  have HR := hid (empty_row8 w w.heap.size (Nat.le_refl _))
  have HL := hid hl
  clear hl
  go_enter Tryd.func15, Tryd.ntmps15
  go_wp2_with (at_builtin; refine wpList_append_any rfl (.tmp 5) (.tmp 6) rfl rfl _ w.heap.size _ [] rfl HR.out A c l rfl (sla_ha8 (HS.out.below (below_new w _))) (by have := HL.out; simp only [List.length_nil]; omega) (by simp) ?_; intro v' w' hR' hb')
  go_ret
  exact ⟨_, rfl, hR', (below_new w _).trans hb'⟩

/-- Where the law is: sorted cells, and their block's bytes. -/
structure Bk8 (w W : World) (vs : Value) (s : List CT) (vb : Value) : Prop where
  bel : Below w.heap.size w W
  cl : ClA W vs s
  row : Row W w.heap.size vb (blockB s)
theorem Bk8.below {w W W' : World} {vs vb : Value} {s : List CT} (h : Bk8 w W vs s vb) (hb : Below W.heap.size W W') : Bk8 w W' vs s vb :=
  ⟨h.bel.trans (hb.mono h.bel.size), h.cl.below hb, h.row.keep hb h.row.block_lt⟩
theorem take_sx {w : World} {g n cap k : Nat} {l : List UInt8} {r : Nat} (h : Sx w r (.slice (some ⟨g, 0, none⟩) n cap) l) (hk : k ≤ l.length) : Sx w r (.slice (some ⟨g, 0, none⟩) k cap) (l.take k) := by
  obtain ⟨A, c, e, h2, h3, h4, h5⟩ := h
  injection e with e1 e2 e3
  subst e1 e3
  refine ⟨_, cap, by rw [List.length_take, Nat.min_eq_left hk], by rw [List.length_take]; omega, h3, h4, fun h0 => ?_⟩
  obtain ⟨b, off, e, k1, k2, k3⟩ := h5 h0
  refine ⟨b, off, e, k1, k2, fun i hi => ?_⟩
  rw [List.length_take] at hi
  rw [k3 i (by omega)]
  simp only [List.getD_eq_getElem?_getD, List.getElem?_take_of_lt (show i < k by omega)]

set_option maxHeartbeats 8000000 in
set_option maxRecDepth 100000 in
theorem blockback_any (v : Value) (l : List CT) (cut : Int) (w : World) (h : ClA w v l) (hv : ∀ c ∈ l, inI c.vn) (hL : LaidU w) :
    Calls Tryd.prog 3 #[v, .int .i64 cut] w fun e w' => e = .returned (.bool true) ∧ Below w.heap.size w w' := by
  have mixed : Tryd.prog.follows .mixedOrders = true := by kernel_rfl
  have HAl : Hid (Calls Tryd.prog 9 #[] w fun e w' => e = .returned (.bool true) ∧ Below w.heap.size w w') := alive8_any w hL
  have HLo : Hid (∀ W, Below w.heap.size w W → Calls Tryd.prog 10 #[v] W fun e w' => e = .returned (.bool (longM 100 l)) ∧ Below W.heap.size W w') := fun W hW => long8_any v l W (h.below hW)
  cases hlo : longM 100 l with
  | true =>
    rw [hlo] at HLo
    clear h hv hL hlo
    go_enter Tryd.func3, Tryd.ntmps3
    go_wp2_with (first
      | (go_at_call 9; refine HAl.out.mono ?_; rintro e w1 ⟨rfl, hb1⟩)
      | (go_at_call 10; refine (HLo.out _ hb1).mono ?_; rintro e w2 ⟨rfl, hb2⟩))
    go_ret
    exact ⟨rfl, hb1.trans (hb2.mono hb1.size)⟩
  | false =>
    rw [hlo] at HLo
    obtain ⟨hl, hs⟩ := longM_sm hlo hv
    have HSo : Hid (∀ W, Below w.heap.size w W → Calls Tryd.prog 11 #[v] W fun e w' => ∃ As cs, e = .returned (.slice As (sortL [] l).length cs) ∧ ClA w' (.slice As (sortL [] l).length cs) (sortL [] l) ∧ Below W.heap.size W w') := fun W hW => by
      refine (refsort_any v l W (h.below hW) hs (by omega)).mono fun e w' ⟨v', he, hr, hb⟩ => ?_
      obtain ⟨As, cs, rfl, _⟩ := hr.len
      exact ⟨As, cs, he, hr.cla, hb⟩
    have hSm := (sortL_i l [] sortI_nil hs).sm
    obtain ⟨hbc, hfine, hlen⟩ := sort_bc hs
    obtain ⟨s, hS⟩ : ∃ s, sortL [] l = s := ⟨_, rfl⟩
    rw [hS] at HSo hSm hbc hfine hlen
    obtain ⟨ns, hns⟩ : ∃ ns, s.length = ns := ⟨_, rfl⟩
    rw [hns] at HSo
    have hsl : s.length ≤ 100 := by omega
    obtain ⟨bl, hbl⟩ : ∃ bl, (blockB s).length = bl := ⟨_, rfl⟩
    have hbl5 : bl ≤ 50000 := by rw [← hbl]; exact block_len hbc (by omega)
    have HBu : Hid (∀ W v, Below w.heap.size w W → ClA W v s → Calls Tryd.prog 12 #[v] W fun e w' => ∃ g cap, e = .returned (.tuple #[.slice (some ⟨g, 0, none⟩) bl cap, .bool true]) ∧ bl ≤ cap ∧ cap ≤ 9223372036854775807 ∧ Bk8 w w' v s (.slice (some ⟨g, 0, none⟩) bl cap)) := fun W u hW hu => by
      refine (build_sorted u s (by omega) W hu hSm hfine (hL.below hW)).mono fun e w' ⟨g, cap, nb, he, hh⟩ => ?_
      obtain ⟨h1, h2, h3⟩ := hh.out
      obtain rfl : nb = bl := by omega
      have h4 := (row_sx h2).holds
      exact ⟨g, cap, he, by omega, h4.2.2.1, hW.trans (h3.mono hW.size), hu.below h3, h2.le hW.size⟩
    have HPa : Hid (∀ (W : World) (u vs : Value), Bk8 w W vs s u → Calls Tryd.prog 13 #[u] W fun e w' => ∃ A c, e = .returned (.tuple #[.slice A ns c, .bool true]) ∧ ClA w' (.slice A ns c) s ∧ Bk8 w w' vs s u) := fun W u vs hh => by
      have := parse_block u s hbc hfine (by omega) (by have := block_len hbc (by omega); omega) W (row_sx hh.row) (hL.below hh.bel)
      rw [hns] at this
      exact this.mono fun e w' ⟨A, c, he, h1, h2⟩ => ⟨A, c, he, h1, hh.below h2⟩
    have HSa : Hid (∀ (W : World) (u v1 v2 : Value), Bk8 w W v2 s u → ClA W v1 s → Calls Tryd.prog 14 #[v1, v2] W fun e w' => e = .returned (.bool true) ∧ Bk8 w w' v2 s u) := fun W u v1 v2 hh h1 => (samecells_any v1 v2 s s W h1 hh.cl).mono fun e w' ⟨he, hb⟩ => ⟨by rw [he, decide_eq_true rfl], hh.below hb⟩
    have HCp : Hid (∀ (W : World) (u vs : Value), Bk8 w W vs s u → Calls Tryd.prog 15 #[u] W fun e w' => ∃ g7 c7, e = .returned (.slice (some ⟨g7, 0, none⟩) bl c7) ∧ Row w' W.heap.size (.slice (some ⟨g7, 0, none⟩) bl c7) (blockB s) ∧ Below W.heap.size W w') := fun W u vs hh => (copyb_any u (blockB s) (by omega) W hh.row.sla).mono fun e w' ⟨v', he, hr, hb⟩ => by
      obtain ⟨g7, c7, rfl, _⟩ := hr.toG (block_pos s)
      rw [hbl] at he hr
      exact ⟨g7, c7, he, hr, hb⟩
    have HPm : Hid (∀ (W : World) (u : Value), Below w.heap.size w W → Row W w.heap.size u (blockB s ++ [0]) → Calls Tryd.prog 13 #[u] W fun e w' => e = .returned (.tuple #[.slice none 0 0, .bool false]) ∧ Below W.heap.size W w') := fun W u hW hr => parse_none u _ (no_more (by omega) hbc hfine (by simp)) (by rw [List.length_append]; have := block_len hbc (by omega); simp; omega) W (row_sx hr) (hL.below hW)
    have HPl : Hid (∀ (W : World) (g cap k : Nat) (vs : Value), Bk8 w W vs s (.slice (some ⟨g, 0, none⟩) bl cap) → k < bl → Calls Tryd.prog 13 #[.slice (some ⟨g, 0, none⟩) k cap] W fun e w' => e = .returned (.tuple #[.slice none 0 0, .bool false]) ∧ Below W.heap.size W w') := fun W g cap k vs hh hk =>
      parse_none _ ((blockB s).take k) (no_less (by omega) hbc hfine (by omega)) (by rw [List.length_take]; omega) W (take_sx (row_sx hh.row) (by omega)) (hL.below hh.bel)
    have HBl : Hid ((blockB s).length ≤ 50000) := block_len hbc (by omega)
    clear h hv hL hlo hl hs hSm hbc hfine hlen hS hns hsl hbl
    by_cases hc0 : 0 ≤ cut
    · by_cases hc1 : cut < (bl : Int)
      · obtain ⟨k, rfl⟩ : ∃ k : Nat, cut = (k : Int) := ⟨cut.toNat, by omega⟩
        have hkl : k < bl := by omega
        go_enter Tryd.func3, Tryd.ntmps3
        go_wp2_with (first
          | (go_at_call 9; refine HAl.out.mono ?_; rintro e w1 ⟨rfl, hb1⟩; have HB := hid hb1)
          | (go_at_call 10; refine (HLo.out _ HB.out).mono ?_; rintro e w2 ⟨rfl, hb2⟩; have HB := hid (HB.out.trans (hb2.mono HB.out.size)))
          | (go_at_call 11; refine (HSo.out _ HB.out).mono ?_; rintro e w3 ⟨As, cs, rfl, hc3, hb3⟩; have HB := hid (HB.out.trans (hb3.mono HB.out.size)); have HC3 := hid hc3; clear hc3)
          | (go_at_call 12; refine (HBu.out _ _ HB.out HC3.out).mono ?_; rintro e w4 ⟨g, cap, rfl, hcap, hcapm, h4⟩; have HK := hid h4; clear h4)
          | (go_at_call 14; refine (HSa.out _ _ _ _ HK.out HM.out).mono ?_; rintro e w6 ⟨rfl, h6⟩; have HK := hid h6; clear h6)
          | (go_at_call 15; refine (HCp.out _ _ _ HK.out).mono ?_; rintro e w7 ⟨g7, c7, rfl, h7, hb7⟩; have HR7 := hid h7; have HB7 := hid hb7; clear h7 hb7)
          | (at_builtin; refine wpList_append_bytes rfl (.tmp 38) (.tmp 39) rfl _ w6.heap.size _ (blockB s) rfl (HR7.out.alloc _) ⟨w7.heap.size, 0, none⟩ 1 1 [0] rfl rfl (one_new' _ 0 _ _ rfl) (by have := HBl.out; simp; omega) (by have := HB7.out.size; simp; omega) ?_; intro v8 w8 h8 hb8; have HB8 : Hid (Below w6.heap.size w6 w8) := HB7.out.trans (((below_new w7 _).mono HB7.out.size).trans hb8); have HK8 := hid (HK.out.below HB8.out); have HR8 := hid (Row.le h8 HK.out.bel.size); clear h8 hb8)
          | (go_at_call 13; first
              | (have hq := HPl.out _ _ _ _ _ HK9.out hkl; refine hq.mono ?_; clear hq; rintro e w10 ⟨rfl, hb10⟩; have HK10 := hid (HK9.out.below hb10); clear hb10)
              | (have hq := HPm.out _ _ HK8.out.bel HR8.out; refine hq.mono ?_; clear hq; rintro e w9 ⟨rfl, hb9⟩; have HK9 := hid (HK8.out.below hb9); clear hb9)
              | (have hq := HPa.out _ _ _ HK.out; refine hq.mono ?_; clear hq; rintro e w5 ⟨Am, cm, rfl, hm, k5⟩; have HK := hid k5; have HM := hid hm; clear hm k5)))
        go_ret
        exact ⟨rfl, HK10.out.bel⟩
      · go_enter Tryd.func3, Tryd.ntmps3
        go_wp2_with (first
          | (go_at_call 9; refine HAl.out.mono ?_; rintro e w1 ⟨rfl, hb1⟩; have HB := hid hb1)
          | (go_at_call 10; refine (HLo.out _ HB.out).mono ?_; rintro e w2 ⟨rfl, hb2⟩; have HB := hid (HB.out.trans (hb2.mono HB.out.size)))
          | (go_at_call 11; refine (HSo.out _ HB.out).mono ?_; rintro e w3 ⟨As, cs, rfl, hc3, hb3⟩; have HB := hid (HB.out.trans (hb3.mono HB.out.size)); have HC3 := hid hc3; clear hc3)
          | (go_at_call 12; refine (HBu.out _ _ HB.out HC3.out).mono ?_; rintro e w4 ⟨g, cap, rfl, hcap, hcapm, h4⟩; have HK := hid h4; clear h4)
          | (go_at_call 14; refine (HSa.out _ _ _ _ HK.out HM.out).mono ?_; rintro e w6 ⟨rfl, h6⟩; have HK := hid h6; clear h6)
          | (go_at_call 15; refine (HCp.out _ _ _ HK.out).mono ?_; rintro e w7 ⟨g7, c7, rfl, h7, hb7⟩; have HR7 := hid h7; have HB7 := hid hb7; clear h7 hb7)
          | (at_builtin; refine wpList_append_bytes rfl (.tmp 38) (.tmp 39) rfl _ w6.heap.size _ (blockB s) rfl (HR7.out.alloc _) ⟨w7.heap.size, 0, none⟩ 1 1 [0] rfl rfl (one_new' _ 0 _ _ rfl) (by have := HBl.out; simp; omega) (by have := HB7.out.size; simp; omega) ?_; intro v8 w8 h8 hb8; have HB8 : Hid (Below w6.heap.size w6 w8) := HB7.out.trans (((below_new w7 _).mono HB7.out.size).trans hb8); have HK8 := hid (HK.out.below HB8.out); have HR8 := hid (Row.le h8 HK.out.bel.size); clear h8 hb8)
          | (go_at_call 13; first
              | (have hq := HPm.out _ _ HK8.out.bel HR8.out; refine hq.mono ?_; clear hq; rintro e w9 ⟨rfl, hb9⟩; have HK9 := hid (HK8.out.below hb9); clear hb9)
              | (have hq := HPa.out _ _ _ HK.out; refine hq.mono ?_; clear hq; rintro e w5 ⟨Am, cm, rfl, hm, k5⟩; have HK := hid k5; have HM := hid hm; clear hm k5)))
        go_ret
        exact ⟨rfl, HK9.out.bel⟩
    · go_enter Tryd.func3, Tryd.ntmps3
      go_wp2_with (first
        | (go_at_call 9; refine HAl.out.mono ?_; rintro e w1 ⟨rfl, hb1⟩; have HB := hid hb1)
        | (go_at_call 10; refine (HLo.out _ HB.out).mono ?_; rintro e w2 ⟨rfl, hb2⟩; have HB := hid (HB.out.trans (hb2.mono HB.out.size)))
        | (go_at_call 11; refine (HSo.out _ HB.out).mono ?_; rintro e w3 ⟨As, cs, rfl, hc3, hb3⟩; have HB := hid (HB.out.trans (hb3.mono HB.out.size)); have HC3 := hid hc3; clear hc3)
        | (go_at_call 12; refine (HBu.out _ _ HB.out HC3.out).mono ?_; rintro e w4 ⟨g, cap, rfl, hcap, hcapm, h4⟩; have HK := hid h4; clear h4)
        | (go_at_call 14; refine (HSa.out _ _ _ _ HK.out HM.out).mono ?_; rintro e w6 ⟨rfl, h6⟩; have HK := hid h6; clear h6)
        | (go_at_call 15; refine (HCp.out _ _ _ HK.out).mono ?_; rintro e w7 ⟨g7, c7, rfl, h7, hb7⟩; have HR7 := hid h7; have HB7 := hid hb7; clear h7 hb7)
        | (at_builtin; refine wpList_append_bytes rfl (.tmp 38) (.tmp 39) rfl _ w6.heap.size _ (blockB s) rfl (HR7.out.alloc _) ⟨w7.heap.size, 0, none⟩ 1 1 [0] rfl rfl (one_new' _ 0 _ _ rfl) (by have := HBl.out; simp; omega) (by have := HB7.out.size; simp; omega) ?_; intro v8 w8 h8 hb8; have HB8 : Hid (Below w6.heap.size w6 w8) := HB7.out.trans (((below_new w7 _).mono HB7.out.size).trans hb8); have HK8 := hid (HK.out.below HB8.out); have HR8 := hid (Row.le h8 HK.out.bel.size); clear h8 hb8)
        | (go_at_call 13; first
            | (have hq := HPm.out _ _ HK8.out.bel HR8.out; refine hq.mono ?_; clear hq; rintro e w9 ⟨rfl, hb9⟩; have HK9 := hid (HK8.out.below hb9); clear hb9)
            | (have hq := HPa.out _ _ _ HK.out; refine hq.mono ?_; clear hq; rintro e w5 ⟨Am, cm, rfl, hm, k5⟩; have HK := hid k5; have HM := hid hm; clear hm k5)))
      go_ret
      exact ⟨rfl, HK9.out.bel⟩
end Go.Proofs.YtfcnobcpnhfgmaaDoor
