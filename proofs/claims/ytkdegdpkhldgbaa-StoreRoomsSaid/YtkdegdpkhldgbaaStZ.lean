/- joistlaw05.StoreRooms. Conditions: the slice holds its calls. -/
import Derived.Test.YtkdegdpkhldgbaaStV
import Derived.Deep.QuietTactic
import Derived.BigQuiet
namespace Go.Proofs.Ytkdegdpkhldgbaa
open Go.RowKit

theorem cmp_bef : ∀ a b : List UInt8, bytesBefore a b = true → Lib.compareBytes a b < 0
  | [], [], h => by cases h
  | [], _ :: _, _ => by show (-1 : Int) < 0; decide
  | _ :: _, [], h => by cases h
  | a :: r, b :: s, h => by
    unfold bytesBefore at h
    rw [Bool.or_eq_true, decide_eq_true_iff, Bool.and_eq_true, beq_iff_eq] at h
    unfold Lib.compareBytes
    rcases h with h | ⟨rfl, h⟩
    · rw [if_pos h]; decide
    · rw [if_neg (UInt8.lt_irrefl a), if_neg (UInt8.lt_irrefl a)]
      exact cmp_bef r s h
theorem size_take {fs : List Fl} {k : Nat} (h : k < fs.length) : sizeF (fs.take (k + 1)) = sizeF (fs.take k) + fs[k].d.length := by
  unfold sizeF
  rw [List.take_succ_eq_append_getElem h, List.map_append, List.sum_append_nat]
  simp
theorem size_sub (fs : List Fl) (k : Nat) : sizeF (fs.take k) ≤ sizeF fs := by
  conv => rhs; rw [← List.take_append_drop k fs]
  unfold sizeF
  rw [List.map_append, List.sum_append_nat]
  omega
theorem loose_le (fs : List Fl) : looseF fs ≤ sizeF fs := by
  unfold looseF sizeF
  induction fs with
  | nil => exact Nat.le_refl _
  | cons a t ih => simp only [List.map_cons, List.sum_cons]; omega
theorem ris_at {fs : List Fl} (h : Ris fs) {k : Nat} (h1 : k < fs.length) (h0 : 0 < k) : Lib.compareBytes fs[k - 1].n.data.toList fs[k].n.data.toList < 0 :=
  cmp_bef _ _ (List.pairwise_iff_getElem.1 h (k - 1) k (by omega) h1 (by omega))

set_option maxRecDepth 100000 in
set_option maxHeartbeats 16000000 in
theorem rooms_ok (z : Int) (v : Value) (cs : List Cl) (hnz : ∀ c ∈ cs, c.nm.size ≤ maxLen ∧ c.tg.size ≤ maxLen ∧ c.d.length ≤ 4611686018427387904) (hn : ∀ c ∈ cs, -9223372036854775808 ≤ c.n ∧ c.n < 9223372036854775808) (hz : -9223372036854775808 ≤ z ∧ z < 9223372036854775808) (w : World) (h : CArg w v cs) :
    Calls Try.prog 6 #[.int .i64 z, v] w fun e w' => e = .returned (.bool true) ∧ Below w.heap.size w w' := by
  have HAl := hid (alive_ok w)
  have HGr := hid fun W (hW : Below w.heap.size w W) => great_ok v cs hnz W (h.below hW)
  have HNn := hid hn
  clear hnz hn
  by_cases hs : SmallP cs
  · have HS := hid hs
    by_cases hr : 0 ≤ z ∧ z ≤ 16777216
    · obtain ⟨A, c, rfl, hl, hh⟩ := h
      have HH := hid hh
      obtain ⟨n, hn⟩ : ∃ n, cs.length = n := ⟨_, rfl⟩
      have HN := hid hn
      rw [hn] at hl HGr ⊢
      have hn80 : n ≤ 80 := by rw [← hn]; exact hs.len
      obtain ⟨hr1, hr2⟩ := hr
      clear hn hh hs hz
      go_enter Try.func6, Try.ntmps6
      go_upto_region 3 with (go_at_call 7; refine HAl.out.mono ?_; rintro e w1 ⟨rfl, hb⟩; have B1 := hid hb; clear hb)
      go_upto_region 5 with (go_at_call 8; refine (HGr.out _ B1.out).mono ?_; intro e w2 hg; obtain ⟨he, hb⟩ := gr_yes hg HS.out; subst he; have B2 := hid (B1.out.trans (hb.mono B1.out.size)); clear hb hg)
      go_upto_region 8 with (go_at_call 9; refine (new_yes z hr1 hr2 _).mono ?_; rintro e w3 ⟨rfl, hd, hb⟩; have HA0 : Hid (LpS w w3 w2.heap.size (w2.heap.size + 1) w2.heap.size [] z 0 0 0) := ⟨lws_start B2.out hr1 hd hb, Nat.le_refl _⟩; clear hd hb)
      obtain ⟨B, hB⟩ : ∃ B, w2.heap.size = B := ⟨_, rfl⟩
      obtain ⟨db, hdb⟩ : ∃ db, w2.heap.size + 1 = db := ⟨_, rfl⟩
      obtain ⟨mb, hmb⟩ : ∃ mb, mb = w2.heap.size := ⟨_, rfl⟩
      have HA : Hid (LpS w w3 B db mb [] z 0 0 0) := by rw [← hB, ← hdb, hmb]; exact HA0
      rw [hdb]
      clear HA0 hB hdb hmb HGr HAl B1 B2
      go_wp2
      go_loopw [7] (fun vi wr => ∃ (k : Nat) (fs : List Fl) (u : Nat), vi = .int .i64 (k : Int) ∧ k ≤ n ∧ Hid (LpS w wr B db mb fs z u k (datN (cs.take k)))) (fun vi _ => n - (intOf vi).toNat)
      case atStart => exact ⟨0, [], 0, rfl, Nat.zero_le _, HA.out⟩
      case round =>
        obtain ⟨k, fs, u, rfl, hk, HL⟩ := hrel
        by_cases hkn : k < n
        · have hkl : k < cs.length := by rw [HN.out]; exact hkn
          obtain ⟨b, o, rfl, hc⟩ := HH.out k hkl
          have hcw := hc.below HL.out.lw.b
          have hok := HS.out.each k hkl
          have hdt := datN_take hkl
          have hnn := HNn.out cs[k] (List.getElem_mem hkl)
          have hd3 := dat_small HS.out (k + 1) hkl
          obtain ⟨x, hx⟩ : ∃ x, cs[k] = x := ⟨_, rfl⟩
          rw [hx] at hcw hok hdt hnn
          have HO : Hid (x.ok) := ⟨by have := hok.2.1; omega, by have := hok.2.2; omega, hnn.1, hnn.2⟩
          have c0 := hcw.c0
          have c1 := hcw.c1
          have c2 := hcw.c2
          have c3 := hcw.c3
          have c4 := hcw.c4
          have HC := hid (lp_do HL.out (by omega) ⟨hr1, hr2⟩ x HO.out hcw.sl)
          obtain ⟨Ad, cd, ed, _⟩ := hcw.sl
          obtain ⟨nd, hnd⟩ : ∃ nd, x.d.length = nd := ⟨_, rfl⟩
          rw [hnd] at ed
          rw [ed] at c3 HC
          have HD := hid hdt
          have HD3 := hid hd3
          clear hc hcw hok hdt hnn hx ed hnd hkl hd3
          go_upto_region 12 with (go_at_call 12; refine HC.out.mono ?_; rintro e w4 ⟨q, fs', u', rfl, _, h1⟩; have HL1 : Hid (LpS w w4 B db mb fs' z u' (k + 1) (datN (cs.take (k + 1)))) := (by rw [HD.out]; exact h1); clear h1)
          clear c0 c1 c2 c3 c4 HC HO HL HD
          have HG := hid (good_fs HL1.out.lw.gd (by omega) hr2)
          have HNa := hid (names_ok HL1.out.lw.dk (by have := HG.out.2.2.2.1; omega))
          obtain ⟨m, hm⟩ : ∃ m, (fs'.map Fl.n).length = m := ⟨_, rfl⟩
          have HM := hid hm
          have hm1 : m ≤ 1000 := by rw [← hm, List.length_map]; exact HG.out.2.2.2.1
          have HM1 : Hid (fs'.length = m) := by rw [← hm, List.length_map]; rfl
          clear hm
          go_upto_region 13 with (go_at_call 19; refine HNa.out.mono ?_; rintro e w6 ⟨vn, rfl, hr, hb⟩; have HL2 := hid (HL1.out.below hb); have HV := hid (srow_stx hr); clear hr hb)
          obtain ⟨A3, c3, rfl⟩ := stx_form HV.out HM.out
          have hsz : sizeF fs' ≤ 3000 := Nat.le_trans HL2.out.sz HD3.out
          clear HNa HL1
          go_wp2
          go_loopw [9, 10] (fun vs vi wr2 => ∃ j : Nat, vs = .int .i64 ((sizeF (fs'.take j) : Nat) : Int) ∧ vi = .int .i64 (j : Int) ∧ j ≤ m ∧ Hid (Below w6.heap.size w6 wr2)) (fun _ vi _ => m - (intOf vi).toNat)
          case atStart => exact ⟨0, rfl, rfl, Nat.zero_le _, Below.refl _ _⟩
          case round =>
            obtain ⟨j, rfl, rfl, hj, HB2⟩ := hrel
            by_cases hjm : j < m
            · have hjl : j < fs'.length := by rw [HM1.out]; exact hjm
              obtain ⟨b2, o2, rfl, hc⟩ := stx_at (HV.out.below HB2.out) (i := j) (by rw [HM.out]; exact hjm)
              rw [List.getElem_map] at hc
              have HRd := hid (read_at (HL2.out.lw.dk.below HB2.out) hjl (by have := (HG.out.2.2.2.2.2.1 fs'[j] (List.getElem_mem hjl)).1; unfold maxLen; omega) (by have := size_each hsz (List.getElem_mem hjl); omega))
              have hst := size_take hjl
              have hsub := size_sub fs' (j + 1)
              have hnm : fs'[j].n.size ≤ 16 := (HG.out.2.2.2.2.2.1 fs'[j] (List.getElem_mem hjl)).1
              by_cases hj0 : 0 < j
              · have hpl : j - 1 < fs'.length := by omega
                obtain ⟨b3, o3, e3, hc3⟩ := stx_at (HV.out.below HB2.out) (i := j - 1) (by rw [HM.out]; omega)
                rw [List.getElem_map] at hc3
                injection e3 with e3
                injection e3 with e4 e5
                subst e4 e5
                have hcm := ris_at HG.out.2.2.2.2.2.2 hjl hj0
                have hnm0 : fs'[j - 1].n.size ≤ 16 := (HG.out.2.2.2.2.2.1 fs'[j - 1] (List.getElem_mem hpl)).1
                obtain ⟨x, hx⟩ : ∃ x, fs'[j].n = x := ⟨_, rfl⟩
                obtain ⟨x0, hx0⟩ : ∃ x, fs'[j - 1].n = x := ⟨_, rfl⟩
                obtain ⟨d, hd⟩ : ∃ d, fs'[j].d = d := ⟨_, rfl⟩
                rw [hx] at hc HRd hnm hcm
                rw [hx0] at hc3 hnm0 hcm
                rw [hd] at HRd hst
                obtain ⟨nd, hnd⟩ : ∃ nd, d.length = nd := ⟨_, rfl⟩
                rw [hnd] at hst
                obtain ⟨s, hs⟩ : ∃ s, sizeF (fs'.take j) = s := ⟨_, rfl⟩
                rw [hs] at hst ⊢
                have hsn : s + nd ≤ 3000 := by omega
                obtain ⟨i, hij⟩ : ∃ i, j - 1 = i := ⟨_, rfl⟩
                rw [hij] at hc3
                have him : i < m := by omega
                have g0 : decide ((0 : Int) < (j : Int)) = true := decide_eq_true (by omega)
                have g2 : (0 : Int) < (j : Int) := by omega
                have HTx := hid fun W => texts_quiet x0 x (by omega) (by omega) W
                obtain ⟨q3, hq3⟩ : ∃ q, Lib.compareBytes x0.data.toList x.data.toList = q := ⟨_, rfl⟩
                rw [hq3] at HTx hcm
                have w1 : IntKind.i64.wrap ((j : Int) - 1) = (i : Int) := by rw [IntKind.wrap_i64]; omega
                have g1 : decide ((0 : Int) ≤ q3) = false := decide_eq_false (by omega)
                have w3 : IntKind.i64.wrap ((s : Int) + (nd : Int)) = ((s + nd : Nat) : Int) := by rw [IntKind.wrap_i64]; omega
                have HND := hid hnd
                have HST := hid hst
                clear hx hx0 hd hnd hjl hpl hst hsub hs hsz hnm hnm0 hq3 hij
                go_upto_region 18 with (go_at_call 26; refine HRd.out.mono ?_; rintro e w8 ⟨v1, rfl, hr, hb⟩; obtain ⟨A5, c5, rfl⟩ := row_form hr HND.out; have HB8 := hid (HB2.out.trans (hb.mono HB2.out.size)); have y0 := (hb.cell (p := ⟨b2, o2 + i, none⟩) (cell_lt hc3)).trans hc3; have y1 := (hb.cell (p := ⟨b2, o2 + j, none⟩) (cell_lt hc)).trans hc; clear hr hb)
                clear hc hc3
                go_quiet (first | (go_at_call 29; refine Calls.quiet_of (HTx.out _)))
                go_wp2
                go_roundw
                case rel => exact ⟨j + 1, by rw [HST.out]; go_num, by go_num, by omega, Go.below_drewN HB8.out _⟩
                case measure => simp [intOf]; omega
              · obtain ⟨x, hx⟩ : ∃ x, fs'[j].n = x := ⟨_, rfl⟩
                obtain ⟨d, hd⟩ : ∃ d, fs'[j].d = d := ⟨_, rfl⟩
                rw [hx] at hc HRd hnm
                rw [hd] at HRd hst
                obtain ⟨nd, hnd⟩ : ∃ nd, d.length = nd := ⟨_, rfl⟩
                rw [hnd] at hst
                obtain ⟨s, hs⟩ : ∃ s, sizeF (fs'.take j) = s := ⟨_, rfl⟩
                rw [hs] at hst ⊢
                have hsn : s + nd ≤ 3000 := by omega
                have HND := hid hnd
                have HST := hid hst
                have g0 : decide ((0 : Int) < (j : Int)) = false := decide_eq_false (by omega)
                have w3 : IntKind.i64.wrap ((s : Int) + (nd : Int)) = ((s + nd : Nat) : Int) := by rw [IntKind.wrap_i64]; omega
                clear hx hd hnd hjl hst hsub hs hsz
                go_upto_region 18 with (go_at_call 26; refine HRd.out.mono ?_; rintro e w8 ⟨v1, rfl, hr, hb⟩; obtain ⟨A5, c5, rfl⟩ := row_form hr HND.out; have HB8 := hid (HB2.out.trans (hb.mono HB2.out.size)); clear hr hb)
                go_region
                all_goals
                  go_wp2
                  go_roundw
                  case rel => exact ⟨j + 1, by rw [HST.out]; go_num, by go_num, by omega, by first | exact HB8.out | exact HB8.out.drew⟩
                  case measure => simp [intOf]; omega
            · obtain rfl : j = m := by omega
              rw [List.take_of_length_le (by rw [HM1.out]; exact Nat.le_refl _)]
              have HL3 := hid (HL2.out.below HB2.out)
              have hzz : (sizeF fs' : Int) ≤ z := HG.out.2.2.1
              have hll := loose_le fs'
              have HSz := hid (size_ok HL3.out.lw.dk)
              have HRo : Hid (∀ W, Below wr.heap.size wr W → Calls Try.prog 24 #[.pointer (some ⟨db, 0, none⟩)] W fun e w' => e = .returned (.int .i64 (z - (sizeF fs' : Int))) ∧ Below W.heap.size W w') := fun W hW => room_ok (HL3.out.lw.dk.below hW) ⟨hr1, hr2⟩ hzz
              have HLo : Hid (∀ W, Below wr.heap.size wr W → Calls Try.prog 25 #[.pointer (some ⟨db, 0, none⟩)] W fun e w' => e = .returned (.int .i64 ((looseF fs' : Nat) : Int)) ∧ Below W.heap.size W w') := fun W hW => loose_ok (HL3.out.lw.dk.below hW) (by omega) (fun f hf => (HG.out.2.2.2.2.2.1 f hf).2.2.1)
              obtain ⟨s, hs⟩ : ∃ s, sizeF fs' = s := ⟨_, rfl⟩
              obtain ⟨lo, hlo⟩ : ∃ lo, looseF fs' = lo := ⟨_, rfl⟩
              rw [hs] at hsz hzz hll HSz HRo
              rw [hlo] at hll HLo
              rw [hs]
              have w1 : IntKind.i64.wrap (z - (s : Int)) = z - (s : Int) := by rw [IntKind.wrap_i64]; omega
              have g1 : ¬ z - (s : Int) < 0 := by omega
              have g2 : ¬ (s : Int) < (lo : Int) := by omega
              clear hs hlo
              go_wp2_with (first
                | (go_at_call 22; refine HSz.out.mono ?_; rintro e w8 ⟨rfl, hb⟩; have B8 := hid hb; clear hb)
                | (go_at_call 24; first | (refine (HRo.out _ B9.out).mono ?_; rintro e w10 ⟨rfl, hb⟩; have B10 := hid (B9.out.trans (hb.mono B9.out.size)); clear hb) | (refine (HRo.out _ B8.out).mono ?_; rintro e w9 ⟨rfl, hb⟩; have B9 := hid (B8.out.trans (hb.mono B8.out.size)); clear hb))
                | (go_at_call 25; refine (HLo.out _ B10.out).mono ?_; rintro e w11 ⟨rfl, hb⟩; have B11 := hid (B10.out.trans (hb.mono B10.out.size)); clear hb))
              go_roundw
              case rel => exact ⟨k + 1, fs', u', by go_num, by omega, HL3.out.below B11.out⟩
              case measure => simp [intOf]; omega
        · obtain rfl : k = n := by omega
          have HE := hid HL.out.lw.b
          go_wp2
          go_ret
          exact ⟨rfl, HE.out⟩
    · have HR : Hid (z < 0 ∨ 16777216 < z) := by unfold Hid; omega
      have H := hid h
      clear hs h
      by_cases hz0 : z < 0
      · clear hr
        go_enter Try.func6, Try.ntmps6
        go_upto_region 3 with (go_at_call 7; refine HAl.out.mono ?_; rintro e w1 ⟨rfl, hb⟩; have B1 := hid hb; clear hb)
        go_upto_region 5 with (go_at_call 8; refine (HGr.out _ B1.out).mono ?_; intro e w2 hg; obtain ⟨he, hb⟩ := gr_yes hg HS.out; subst he; have B2 := hid (B1.out.trans (hb.mono B1.out.size)); clear hb hg)
        go_wp2_with (go_at_call 9; refine (new_no z HR.out _).mono ?_; rintro e w3 ⟨rfl, hb⟩; have B3 := hid (B2.out.trans (hb.mono B2.out.size)); clear hb)
        go_ret
        exact ⟨rfl, B3.out⟩
      · have hz1 : 16777216 < z := by omega
        clear hr
        go_enter Try.func6, Try.ntmps6
        go_upto_region 3 with (go_at_call 7; refine HAl.out.mono ?_; rintro e w1 ⟨rfl, hb⟩; have B1 := hid hb; clear hb)
        go_upto_region 5 with (go_at_call 8; refine (HGr.out _ B1.out).mono ?_; intro e w2 hg; obtain ⟨he, hb⟩ := gr_yes hg HS.out; subst he; have B2 := hid (B1.out.trans (hb.mono B1.out.size)); clear hb hg)
        go_wp2_with (go_at_call 9; refine (new_no z HR.out _).mono ?_; rintro e w3 ⟨rfl, hb⟩; have B3 := hid (B2.out.trans (hb.mono B2.out.size)); clear hb)
        go_ret
        exact ⟨rfl, B3.out⟩
  · have HS := hid hs
    have H := hid h
    clear hs h
    go_enter Try.func6, Try.ntmps6
    go_upto_region 3 with (go_at_call 7; refine HAl.out.mono ?_; rintro e w1 ⟨rfl, hb⟩; have B1 := hid hb; clear hb)
    go_wp2_with (go_at_call 8; refine (HGr.out _ B1.out).mono ?_; intro e w2 hg; obtain ⟨he, hb⟩ := gr_no hg HS.out; subst he; have B2 := hid (B1.out.trans (hb.mono B1.out.size)); clear hb hg)
    go_ret
    exact ⟨rfl, B2.out⟩
end Go.Proofs.Ytkdegdpkhldgbaa
