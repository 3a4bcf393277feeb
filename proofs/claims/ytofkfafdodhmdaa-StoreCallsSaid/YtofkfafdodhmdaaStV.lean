/- joistlaw05.StoreTwice. Conditions: the slice holds its calls. -/
import Derived.Test.YtofkfafdodhmdaaStU
namespace Go.Proofs.Ytofkfafdodhmdaa
open Go.RowKit

/-- The reads of the law so far. -/
structure RdS (W wr : World) (v : Value) (ls : List (List UInt8)) : Prop where
  b : Below W.heap.size W wr
  row : ORow wr W.heap.size v ls
theorem RdS.drew {W wr : World} {v : Value} {ls : List (List UInt8)} (h : RdS W wr v ls) : RdS W wr.drew v ls := ⟨h.b.drew, h.row⟩
theorem RdS.next {W wr w1 w2 : World} {v v' : Value} {ls ls' : List (List UInt8)} (h : RdS W wr v ls) (hb : Below wr.heap.size wr w1) (hr : ORow w2 W.heap.size v' ls') (hg : w1.grownBy w2 v.ownBlock) : RdS W w2 v' ls' := by
  refine ⟨(h.b.trans (hb.mono h.b.size)).grown hg (h.b.trans (hb.mono h.b.size)).size ?_, hr⟩
  intro k e
  obtain ⟨vs, _, h2, _⟩ := h.row
  exact (World.ownsRow.lt h2 k e).1

theorem dat_small {cs : List Cl} (h : SmallP cs) : ∀ k, k ≤ cs.length → datN (cs.take k) ≤ 3000
  | 0, _ => Nat.zero_le _
  | k + 1, hk => (h.each k hk).1
/-- A text of a slice. -/
theorem stx_at {w : World} {A : Option Addr} {n c : Nat} {l : List ByteArray} (h : STx w (.slice A n c) l) {i : Nat} (hi : i < l.length) : ∃ b o, A = some ⟨b, o, none⟩ ∧ w.cell? ⟨b, o + i, none⟩ = some (.string l[i]) := by
  obtain ⟨A', c', e, hh⟩ := h
  injection e with e1 e2 e3
  subst e1
  exact hh i hi
theorem stx_form {w : World} {v : Value} {l : List ByteArray} (h : STx w v l) {n : Nat} (hn : l.length = n) : ∃ A c, v = .slice A n c := by
  obtain ⟨A, c, e, _⟩ := h
  exact ⟨A, c, by rw [e, hn]⟩
set_option maxRecDepth 100000 in
set_option maxHeartbeats 16000000 in
theorem twice_ok (v : Value) (cs : List Cl) (hnz : ∀ c ∈ cs, c.nm.size ≤ maxLen ∧ c.tg.size ≤ maxLen ∧ c.d.length ≤ 4611686018427387904) (hn : ∀ c ∈ cs, -9223372036854775808 ≤ c.n ∧ c.n < 9223372036854775808) (K1 K2 : Int) (h1 : -9223372036854775808 ≤ K1 ∧ K1 < 9223372036854775808) (h2 : -9223372036854775808 ≤ K2 ∧ K2 < 9223372036854775808) (w : World) (h : CArg w v cs) :
    Calls Try.prog 5 #[v, .int .i64 K1, .int .i64 K2] w fun e w' => e = .returned (.bool true) ∧ Below w.heap.size w w' := by
  have HAl := hid (alive_ok w)
  have HGr := hid fun W (hW : Below w.heap.size w W) => great_ok v cs hnz W (h.below hW)
  have H := hid h
  have HNn := hid hn
  have HK1 := hid h1
  have HK2 := hid h2
  clear hnz hn h1 h2
  by_cases hs : SmallP cs
  · have HS := hid hs
    obtain ⟨A, c, rfl, hl, hh⟩ := h
    have HH := hid hh
    obtain ⟨n, hn⟩ : ∃ n, cs.length = n := ⟨_, rfl⟩
    have HN := hid hn
    rw [hn] at hl HGr ⊢
    have hn80 : n ≤ 80 := by rw [← hn]; exact hs.len
    clear hn hh hs H
    go_enter Try.func5, Try.ntmps5
    go_upto_region 3 with (go_at_call 7; refine HAl.out.mono ?_; rintro e w1 ⟨rfl, hb⟩; have B1 := hid hb; clear hb)
    go_upto_region 5 with (go_at_call 8; refine (HGr.out _ B1.out).mono ?_; intro e w2 hg; obtain ⟨he, hb⟩ := gr_yes hg HS.out; subst he; have B2 := hid (B1.out.trans (hb.mono B1.out.size)); clear hb hg)
    go_upto_region 8 with (go_at_call 9; refine (new_yes 16777216 (by decide) (by decide) _).mono ?_; rintro e w3 ⟨rfl, hd, hb⟩; have HA0 : Hid (LpS w w3 w2.heap.size (w2.heap.size + 1) w2.heap.size [] 16777216 0 0 0) := ⟨lws_start B2.out (by decide) hd hb, Nat.le_refl _⟩; clear hd hb)
    obtain ⟨B, hB⟩ : ∃ B, w2.heap.size = B := ⟨_, rfl⟩
    obtain ⟨db, hdb⟩ : ∃ db, w2.heap.size + 1 = db := ⟨_, rfl⟩
    obtain ⟨mb, hmb⟩ : ∃ mb, mb = w2.heap.size := ⟨_, rfl⟩
    have HA : Hid (LpS w w3 B db mb [] 16777216 0 0 0) := by rw [← hB, ← hdb, hmb]; exact HA0
    rw [hdb]
    clear HA0 hB hdb hmb HGr HAl B1 B2
    go_wp2
    go_loopw [9] (fun vi wr => ∃ (k : Nat) (fs : List Fl) (u : Nat), vi = .int .i64 (k : Int) ∧ k ≤ n ∧ Hid (LpS w wr B db mb fs 16777216 u k (datN (cs.take k)))) (fun vi _ => n - (intOf vi).toNat)
    case atStart => exact ⟨0, [], 0, rfl, Nat.zero_le _, HA.out⟩
    case round =>
      obtain ⟨k, fs, u, rfl, hk, HL⟩ := hrel
      by_cases hkn : k < n
      · have hkl : k < cs.length := by rw [HN.out]; exact hkn
        obtain ⟨b, o, rfl, hc⟩ := HH.out k hkl
        have hcw := hc.below HL.out.lw.b
        have hok := HS.out.each k hkl
        have hdt := datN_take hkl
        have hnn := HNn.out cs[k] (List.getElem_mem hkl)
        obtain ⟨x, hx⟩ : ∃ x, cs[k] = x := ⟨_, rfl⟩
        rw [hx] at hcw hok hdt hnn
        have HO : Hid (x.ok) := ⟨by have := hok.2.1; omega, by have := hok.2.2; omega, hnn.1, hnn.2⟩
        have c0 := hcw.c0
        have c1 := hcw.c1
        have c2 := hcw.c2
        have c3 := hcw.c3
        have c4 := hcw.c4
        have HC := hid (lp_do HL.out (by omega) ⟨by decide, by decide⟩ x HO.out hcw.sl)
        obtain ⟨Ad, cd, ed, _⟩ := hcw.sl
        obtain ⟨nd, hnd⟩ : ∃ nd, x.d.length = nd := ⟨_, rfl⟩
        rw [hnd] at ed
        rw [ed] at c3 HC
        have HD := hid hdt
        clear hc hcw hok hdt hnn hx ed hnd hkl
        go_wp2_with (go_at_call 12; refine HC.out.mono ?_; rintro e w4 ⟨q, fs', u', rfl, _, h1⟩; have HL' := hid h1; clear h1)
        go_roundw
        case rel => exact ⟨k + 1, fs', u', by go_num, by omega, by rw [HD.out]; exact HL'.out⟩
        case measure => simp [intOf]; omega
      · obtain rfl : k = n := by omega
        have HC := hid (crash_lw HL.out.lw (by omega) (by decide) K1 HK1.out.1 HK1.out.2)
        have h3 := dat_small HS.out k (by rw [HN.out]; exact Nat.le_refl _)
        have H3 : Hid (sizeF fs ≤ 3000) := Nat.le_trans HL.out.sz h3
        clear h3
        go_upto_region 13 with (go_at_call 28; refine HC.out.mono ?_; rintro e w5 ⟨rfl, l, p1, p2, q1, q2, q3⟩; have HL1 : Hid (LpS w w5 B db mb (crF fs l K1) 16777216 u (k + 1) 3000) := ⟨q1, Nat.le_trans q3 H3.out⟩; have HF : Hid (Firm (crF fs l K1)) := firm_crash q1.gd; clear p1 p2 q1 q2 q3)
        obtain ⟨f1, hf1⟩ : ∃ f1, crF fs l K1 = f1 := ⟨_, rfl⟩
        rw [hf1] at HL1 HF
        clear hf1 HC H3 HL
        have HG := hid (good_fs HL1.out.lw.gd (by omega) (by decide))
        have HNa := hid (names_ok HL1.out.lw.dk (by have := HG.out.2.2.2.1; omega))
        obtain ⟨m, hm⟩ : ∃ m, (f1.map Fl.n).length = m := ⟨_, rfl⟩
        have HM := hid hm
        have hm1 : m ≤ 1000 := by rw [← hm, List.length_map]; exact HG.out.2.2.2.1
        have HM1 : Hid (f1.length = m) := by rw [← hm, List.length_map]; rfl
        clear hm
        go_upto_region 14 with (go_at_call 19; refine HNa.out.mono ?_; rintro e w6 ⟨vn, rfl, hr, hb⟩; have HL2 := hid (HL1.out.below hb); have HV := hid (srow_stx hr); have HVb : Hid (∀ g, vn.ownBlock = some g → ¬ Ft db mb f1 g) := fun g hg hf => absurd (HL1.out.lw.dk.ft hf).2 (Nat.not_lt.2 (World.ownsRow.lt hr g hg).1); clear hr hb)
        obtain ⟨A3, c3, rfl⟩ := stx_form HV.out HM.out
        clear HNa
        have HSz := hid (size_ok HL2.out.lw.dk)
        go_upto_region 15 with (go_at_call 22; refine HSz.out.mono ?_; rintro e w7 ⟨rfl, hb⟩; have HL3 := hid (HL2.out.below hb); have HV3 := hid (HV.out.below hb); clear hb)
        clear HSz HL2 HL1 HV
        have HR0 : Hid (RdS w7 (w7.alloc (.cells #[] 32)) (.slice (some ⟨w7.heap.size, 0, none⟩) 0 0) []) := ⟨below_new w7 _, orow_start w7 _ (Nat.le_refl _)⟩
        go_wp2
        go_loopw [12, 13] (fun vo vi wr => ∃ (j c : Nat) (A : Option Addr), vo = .slice A j c ∧ vi = .int .i64 (j : Int) ∧ j ≤ m ∧ Hid (RdS w7 wr (.slice A j c) ((f1.map Fl.d).take j))) (fun _ vi _ => m - (intOf vi).toNat)
        case atStart => exact ⟨0, 0, _, rfl, rfl, Nat.zero_le _, HR0.out⟩
        case round =>
          obtain ⟨j, c4, A4, rfl, rfl, hj, HR⟩ := hrel
          by_cases hjm : j < m
          · have hjl : j < f1.length := by rw [HM1.out]; exact hjm
            obtain ⟨b, o, rfl, hc⟩ := stx_at (HV3.out.below HR.out.b) (i := j) (by rw [HM.out]; exact hjm)
            have HRd := hid (read_at (HL3.out.lw.dk.below HR.out.b) hjl (by have := (HG.out.2.2.2.2.2.1 f1[j] (List.getElem_mem hjl)).1; unfold maxLen; omega) (by have := size_each HL3.out.sz (List.getElem_mem hjl); omega))
            rw [List.getElem_map] at hc
            obtain ⟨x, hx⟩ : ∃ x, f1[j].n = x := ⟨_, rfl⟩
            obtain ⟨d, hd⟩ : ∃ d, f1[j].d = d := ⟨_, rfl⟩
            rw [hx] at hc HRd
            rw [hd] at HRd
            obtain ⟨nd, hnd⟩ : ∃ nd, d.length = nd := ⟨_, rfl⟩
            have HND := hid hnd
            have HDE : Hid ((f1.map Fl.d).take (j + 1) = (f1.map Fl.d).take j ++ [d]) := by
              unfold Hid
              rw [List.take_succ_eq_append_getElem (by rw [List.length_map]; exact hjl), List.getElem_map, hd]
            have HDL : Hid (((f1.map Fl.d).take j).length = j) := by
              unfold Hid
              rw [List.length_take, List.length_map]
              omega
            clear hx hd hnd hjl
            go_upto_region 20 with (go_at_call 26; refine HRd.out.mono ?_; rintro e w8 ⟨v1, rfl, hr, hb⟩; obtain ⟨A5, c5, rfl⟩ := row_form hr HND.out; have HRw := hid hr; have HB8 := hid hb; clear hr hb)
            go_wp2_with (at_builtin; refine wpList_append_sl rfl _ _ rfl _ w7.heap.size (.slice A4 j c4) _ rfl (HR.out.row.below (HB8.out.trans ((below_new w8 _).mono HB8.out.size))) _ _ _ d rfl (by first | exact World.cell?_alloc_at _ _ _ _ rfl | rfl) rfl (row_low (World.ownsRow.alloc HRw.out _) HR.out.b.size) (by rw [HDL.out]; omega) (by have := HR.out.b.size; have := HB8.out.size; simp; omega) ?_; intro v2 w9 hr2 hg2)
            have hst := HR.out.next (HB8.out.trans ((below_new w8 _).mono HB8.out.size)) hr2 hg2
            rw [← HDE.out] at hst
            have e4 : ∃ A6 c6, v2 = .slice A6 (j + 1) c6 := by
              obtain ⟨A6, c6, e⟩ := orow_form hr2
              exact ⟨A6, c6, by rw [e, List.length_append, HDL.out]; rfl⟩
            obtain ⟨A6, c6, rfl⟩ := e4
            have HST := hid hst
            clear hst hr2 hg2
            go_wp2
            go_roundw
            case rel => exact ⟨j + 1, c6, A6, rfl, by go_num, by omega, by first | exact HST.out | exact HST.out.drew⟩
            case measure => simp [intOf]; omega
          · obtain rfl : j = m := by omega
            have HL4 := hid (HL3.out.below HR.out.b)
            have HV4 := hid (HV3.out.below HR.out.b)
            have HO4 := HR.out.row
            rw [List.take_of_length_le (by rw [List.length_map, HM1.out]; exact Nat.le_refl _)] at HO4
            have HO := hid HO4
            have HFt : Hid (∀ q, Ft db mb f1 q → q < w7.heap.size) := fun q hq => (HL3.out.lw.dk.ft hq).2
            have HC2 := hid (crash_lw HL4.out.lw (by omega) (by decide) K2 HK2.out.1 HK2.out.2)
            clear HO4
            go_upto_region 22 with (go_at_call 28; refine HC2.out.mono ?_; rintro e w9 ⟨rfl, l2, p1, p2, q1, q2, q3⟩; have HL5 : Hid (LpS w w9 B db mb (crF f1 l2 K2) 16777216 u (k + 1 + 1) 3000) := ⟨q1, Nat.le_trans q3 HL4.out.sz⟩; have HVw : Hid (viewF (crF f1 l2 K2) = viewF f1) := firm_again HF.out p1 K2; have HV5 := hid (HV4.out.chg q2 HVb.out); have HO5 := hid (HO.out.keep fun q h1 h2 => q2.block q h2 fun hq => absurd (HFt.out q hq) (Nat.not_lt.2 h1)); clear p1 p2 q1 q2 q3)
            obtain ⟨f2, hf2⟩ : ∃ f2, crF f1 l2 K2 = f2 := ⟨_, rfl⟩
            rw [hf2] at HL5 HVw
            have HL2n : Hid (f2.length = j) := by
              have := view_names HVw.out
              have h2 := congrArg List.length this
              rw [List.length_map, List.length_map, HM1.out] at h2
              exact h2
            have HG2 := hid (good_fs HL5.out.lw.gd (by omega) (by decide))
            have HSzE : Hid (sizeF f2 = sizeF f1) := by
              have := congrArg sizeV HVw.out
              rw [view_size, view_size] at this
              exact this
            clear hf2 HC2 HL4 HV4 HO HFt HR HL3 HV3 HVb HG HF HA
            have HNb := hid (names_ok HL5.out.lw.dk (by rw [HL2n.out]; omega))
            have HSm := hid fun W v2 (h1 : STx W v2 (f1.map Fl.n)) (h2 : STx W (.slice A3 j c3) (f1.map Fl.n)) => samet_ok v2 (.slice A3 j c3) (f1.map Fl.n) (by rw [HM.out]; omega) W h1 h2
            go_upto_region 24 with (first
              | (go_at_call 19; refine HNb.out.mono ?_; rintro e w10 ⟨vm, rfl, hr, hb⟩; have HB10 := hid hb; have HVm : Hid (STx w10 vm (f1.map Fl.n)) := (by have := srow_stx hr; rw [view_names HVw.out] at this; exact this); clear hr hb)
              | (go_at_call 20; refine (HSm.out _ _ HVm.out (HV5.out.below HB10.out)).mono ?_; rintro e w11 ⟨rfl, hb⟩; have HB11 := hid (HB10.out.trans (hb.mono HB10.out.size)); have HSq := hid (size_ok (HL5.out.lw.dk.below HB11.out)); rw [HSzE.out] at HSq; clear hb)
              | (go_at_call 22; refine HSq.out.mono ?_; rintro e w12 ⟨rfl, hb⟩; have HB12 := hid (HB11.out.trans (hb.mono HB11.out.size)); clear hb))
            clear HNb HSm
            have HL6 := hid (HL5.out.below HB12.out)
            have HV6 := hid (HV5.out.below HB12.out)
            have HO6 := hid (HO5.out.below HB12.out)
            clear HL5 HV5 HO5 HB12 HB11 HB10 HVm HSq
            go_wp2
            go_loopw [16] (fun vi wr => ∃ i : Nat, vi = .int .i64 (i : Int) ∧ i ≤ j ∧ Below w12.heap.size w12 wr) (fun vi _ => j - (intOf vi).toNat)
            case atStart => exact ⟨0, rfl, Nat.zero_le _, Below.refl _ _⟩
            case round =>
              obtain ⟨i, rfl, hi, hb⟩ := hrel
              by_cases hij : i < j
              · have hil : i < f2.length := by rw [HL2n.out]; exact hij
                have hil1 : i < f1.length := by rw [HM1.out]; exact hij
                obtain ⟨b, o, rfl, hc⟩ := stx_at (HV6.out.below hb) (i := i) (by rw [HM.out]; exact hij)
                rw [List.getElem_map] at hc
                obtain ⟨g, A5, c5, rfl, ho, hos⟩ := orow_at (HO6.out.below hb) (i := i) (by rw [List.length_map]; exact hil1)
                rw [List.getElem_map] at ho hos
                obtain ⟨hvn, hvd⟩ := view_dat HVw.out hil hil1
                have HRd := hid (read_at (HL6.out.lw.dk.below hb) hil (by have := (HG2.out.2.2.2.2.2.1 f2[i] (List.getElem_mem hil)).1; unfold maxLen; omega) (by have := size_each HL6.out.sz (List.getElem_mem hil); omega))
                rw [hvn, hvd] at HRd
                obtain ⟨x, hx⟩ : ∃ x, f1[i].n = x := ⟨_, rfl⟩
                obtain ⟨d, hd⟩ : ∃ d, f1[i].d = d := ⟨_, rfl⟩
                have hdl : d.length ≤ 1000000 := by have := size_each HL6.out.sz (List.getElem_mem hil); rw [hvd, hd] at this; omega
                rw [hx] at hc HRd
                rw [hd] at HRd ho hos
                obtain ⟨nd, hnd⟩ : ∃ nd, d.length = nd := ⟨_, rfl⟩
                have HND := hid hnd
                have HDl := hid hdl
                rw [hnd] at ho hos
                have HOs := hid hos
                have HBr := hid hb
                have HHo := hid ho
                clear hx hd hnd hil hil1 hvn hvd hdl hos hb ho
                go_upto_region 28 with (go_at_call 26; refine HRd.out.mono ?_; rintro e w13 ⟨v1, rfl, hr, hb⟩; obtain ⟨A7, c7, rfl⟩ := row_form hr HND.out; have HRs := hid hr.sla; have HB13 := hid hb; have ho := (hb.cell (p := ⟨g, i, none⟩) (cell_lt HHo.out)).trans HHo.out; clear hr hb)
                have HSb := hid (same_sla _ _ d d HDl.out w13 HRs.out (HOs.out.below HB13.out))
                rw [decide_eq_true rfl] at HSb
                go_wp2_with (go_at_call 18; refine HSb.out.mono ?_; rintro e w14 ⟨rfl, hb⟩; have HB14 := hid (HBr.out.trans ((HB13.out.trans (hb.mono HB13.out.size)).mono HBr.out.size)); clear hb)
                go_roundw
                case rel => exact ⟨i + 1, by go_num, by omega, by first | exact HB14.out | exact HB14.out.drew⟩
                case measure => simp [intOf]; omega
              · obtain rfl : i = j := by omega
                have HE := hid (HL6.out.lw.b.trans (hb.mono HL6.out.lw.b.size))
                clear hb
                go_wp2
                go_ret
                exact ⟨rfl, HE.out⟩
  · have HS := hid hs
    clear hs
    go_enter Try.func5, Try.ntmps5
    go_upto_region 3 with (go_at_call 7; refine HAl.out.mono ?_; rintro e w1 ⟨rfl, hb⟩; have B1 := hid hb; clear hb)
    go_wp2_with (go_at_call 8; refine (HGr.out _ B1.out).mono ?_; intro e w2 hg; obtain ⟨he, hb⟩ := gr_no hg HS.out; subst he; have B2 := hid (B1.out.trans (hb.mono B1.out.size)); clear hb hg)
    go_ret
    exact ⟨rfl, B2.out⟩
end Go.Proofs.Ytofkfafdodhmdaa
