/- The statement of layer 6: families of rows are nothing to each other. Conditions: the arguments stand, their numbers are of 64 bits; the tables of utf8 read as they are laid. -/
import Derived.Test.YtpjkhholpbfbpaaDoorJF
import Derived.Test.YtpjkhholpbfbpaaDoorJE
namespace Go.Proofs.YtpjkhholpbfbpaaDoor
open Go.RowKit

set_option maxHeartbeats 4000000 in
set_option maxRecDepth 100000 in
theorem cellapart_any (v : Value) (l : List CT) (ver life now : Int) (row fam : ByteArray) (w : World) (h : ClA w v l) (hv : ∀ c ∈ l, inI c.vn) (hL : LaidU w) :
    Calls Tryd.prog 8 #[v, .int .i64 ver, .int .i64 life, .int .i64 now, .string row, .string fam] w fun e w' => e = .returned (.bool true) ∧ Below w.heap.size w w' := by
  have mixed : Tryd.prog.follows .mixedOrders = true := by kernel_rfl
  have HA := hid (alive_any w hL)
  have HLg : Hid (∀ W, Below w.heap.size w W → Calls Tryd.prog 21 #[v] W fun e w' => e = .returned (.bool (longC l)) ∧ Below W.heap.size W w') := fun W hb => long_any v l W (h.below hb)
  cases hg : longC l with
  | true =>
    rw [hg] at HLg
    clear h hv hL hg
    go_enter Tryd.func8, Tryd.ntmps8
    go_wp2_with (first | (go_at_call 20; refine HA.out.mono ?_; rintro e w5 ⟨rfl, hb5⟩) | (go_at_call 21; refine (HLg.out _ hb5).mono ?_; rintro e w6 ⟨rfl, hb6⟩; have BW := hid (hb5.trans (hb6.mono hb5.size))))
    all_goals (go_ret; exact ⟨rfl, BW.out⟩)
  | false =>
    rw [hg] at HLg
    have hlen : l.length ≤ 100000 := (longC_ok hg hv).1
    have HS : Hid (∀ (W : World), Below w.heap.size w W → Calls Tryd.prog 27 #[v, .int .i64 ver, .int .i64 life, .int .i64 now] W fun e w' => ∃ v' s, e = .returned v' ∧ CRow w' W.heap.size v' (seenL ver life now s) ∧ Hid (SortOf l s ∧ (seenL ver life now s).length ≤ 100000) ∧ Below W.heap.size W w') := fun W hb => (cseen_any v l (longC_ok hg hv).1 ver life now W (h.below hb) (longC_ok hg hv).2 (hL.below hb)).mono fun _ _ ⟨v', s, h1, h2, h3, h4⟩ => ⟨v', s, h1, h3, ⟨h2, Nat.le_trans (seenL_len ver life now s) (Nat.le_trans h2.len (longC_ok hg hv).1)⟩, h4⟩
    have HSm : Hid (∀ (W : World) (vm : Value), Below w.heap.size w W → ClA W vm (l.filter (famP row fam)) → Calls Tryd.prog 27 #[vm, .int .i64 ver, .int .i64 life, .int .i64 now] W fun e w' => ∃ v' s, e = .returned v' ∧ CRow w' W.heap.size v' (seenL ver life now s) ∧ Hid (SortOf (l.filter (famP row fam)) s) ∧ Below W.heap.size W w') := fun W vm hb hc => (cseen_any vm (l.filter (famP row fam)) (Nat.le_trans (List.length_filter_le _ _) (longC_ok hg hv).1) ver life now W hc (fun c hc => (longC_ok hg hv).2 c (List.mem_filter.1 hc).1) (hL.below hb)).mono fun _ _ ⟨v', s, h1, h2, h3, h4⟩ => ⟨v', s, h1, h3, h2, h4⟩
    have HQ : Hid (∀ s t, SortOf l s → SortOf (l.filter (famP row fam)) t → decide (seenL ver life now t = (seenL ver life now s).filter (famP row fam)) = true) := fun s t h1 h2 => decide_eq_true (part_all row fam h1 h2 ver life now)
    have HSC := hid samecells_any
    have HCl := hid h
    have HN0 : Hid (∀ (W : World) (B : Nat), B ≤ W.heap.size → CRow (W.alloc (.cells #[] 28)) B (.slice (some ⟨W.heap.size, 0, none⟩) 0 0) []) := fun W B hB => ⟨rfl, .inr ⟨W.heap.size, 0, #[], rfl, hB, Blk.new _ _ _, Nat.le_refl _, by unfold maxLen; omega, rfl, rfl⟩⟩
    clear h hv hL hg
    obtain ⟨A, cc, rfl, hc1, hc2, hh⟩ := HCl.out
    have HH := hid hh
    obtain ⟨n, hn⟩ : ∃ n, l.length = n := ⟨_, rfl⟩
    have HN := hid hn
    rw [hn] at hlen hc1 HS HLg ⊢
    clear hh hn HCl
    go_enter Tryd.func8, Tryd.ntmps8
    go_wp2_with (first | (go_at_call 20; refine HA.out.mono ?_; rintro e w5 ⟨rfl, hb5⟩) | (go_at_call 21; refine (HLg.out _ hb5).mono ?_; rintro e w6 ⟨rfl, hb6⟩; have BW := hid (hb5.trans (hb6.mono hb5.size))))
    all_goals first
      | (go_ret; exact ⟨rfl, BW.out⟩)
      | skip
    clear HA HLg
    go_loopw [13, 14] (fun vo vi wr => ∃ i : Nat, i ≤ n ∧ vi = .int .i64 i ∧ Hid (CRow wr w.heap.size vo ((l.take i).filter (famP row fam))) ∧ Hid (Below w.heap.size w wr)) (fun _ vi _ => n - (intOf vi).toNat)
    case atStart => exact ⟨0, Nat.zero_le _, rfl, (HN0.out w6 w.heap.size BW.out.size), BW.out.alloc BW.out.size _⟩
    case round =>
      obtain ⟨i, hi, rfl, HO, HB⟩ := hrel
      by_cases hlt : i < n
      · have hin : i < l.length := by rw [HN.out]; exact hlt
        have hltz : (i : Int) < (n : Int) := by omega
        obtain ⟨b, off, rfl, hhc⟩ := HH.out (by omega)
        have hbw : b < w.heap.size := hhc.lt (by omega)
        obtain ⟨c, hc⟩ : ∃ c, l[i] = c := ⟨_, rfl⟩
        have P : wr.cell? ⟨b, off + i * 8, none⟩ = some (.string c.r) ∧ wr.cell? ⟨b, off + i * 8 + 1, none⟩ = some (.string c.f) ∧ wr.cell? ⟨b, off + i * 8 + 2, none⟩ = some (.string c.q) ∧ wr.cell? ⟨b, off + i * 8 + 3, none⟩ = some (.int .i64 c.t) ∧ wr.cell? ⟨b, off + i * 8 + 4, none⟩ = some (.int .i64 c.k) ∧ wr.cell? ⟨b, off + i * 8 + 5, none⟩ = some (.int .i64 c.vk) ∧ wr.cell? ⟨b, off + i * 8 + 6, none⟩ = some (.int .i64 c.vn) ∧ wr.cell? ⟨b, off + i * 8 + 7, none⟩ = some (.string c.s) := by
          rw [← hc]
          exact (hhc.below HB.out hbw).words i hin
        have HTk : Hid ((l.take (i + 1)).filter (famP row fam) = (l.take i).filter (famP row fam) ++ (if famP row fam c = true then [c] else [])) := by
          unfold Hid
          rw [List.take_add_one, List.getElem?_eq_getElem hin, List.filter_append, hc]
          show _ ++ List.filter (famP row fam) [c] = _
          simp only [List.filter_cons, List.filter_nil]
        have HLn : Hid (((l.take i).filter (famP row fam)).length ≤ 100000) := by
          have h1 := List.length_filter_le (famP row fam) (l.take i)
          have h2 := hlen
          rw [List.length_take] at h1
          unfold Hid; omega
        obtain ⟨p0, p1, p2, p3, p4, p5, p6, p7⟩ := P
        clear hc hhc
        by_cases h1 : c.r = row
        · have q1 : (c.r.toList == row.toList) = true := by rw [h1]; simp
          by_cases h2 : c.f = fam
          · have q2 : (c.f.toList == fam.toList) = true := by rw [h2]; simp
            have HT2 : Hid ((l.take (i + 1)).filter (famP row fam) = (l.take i).filter (famP row fam) ++ [c]) := by
              have := HTk.out
              rwa [if_pos (fam_iff.2 ⟨h1, h2⟩)] at this
            clear h1 h2
            go_wp2_with (at_builtin; refine wpList_append_cell rfl (.tmp 67) (.tmp 72) rfl _ w.heap.size _ _ rfl (HO.out.below (below_new _ _)) _ 1 rfl c (ct_new c _ _) HLn.out (by have h1 := HB.out.size; have h2 := HB.out.size; simp; omega) ?_; intro v9 w9 h9 hb9 _)
            go_roundw
            case rel => exact ⟨i + 1, by omega, by go_num, by rw [HT2.out]; exact h9, (HB.out.alloc HB.out.size _).trans hb9⟩
            case measure => simp [intOf]; omega
          · have q2 : (c.f.toList == fam.toList) = false := ba_ne h2
            have HT2 : Hid ((l.take (i + 1)).filter (famP row fam) = (l.take i).filter (famP row fam)) := by
              have := HTk.out
              rwa [if_neg (fun q => h2 (fam_iff.1 q).2), List.append_nil] at this
            clear h1 h2
            go_wp2
            go_roundw
            case rel => exact ⟨i + 1, by omega, by go_num, by rw [HT2.out]; exact HO.out, HB.out⟩
            case measure => simp [intOf]; omega
        · have q1 : (c.r.toList == row.toList) = false := ba_ne h1
          have HT2 : Hid ((l.take (i + 1)).filter (famP row fam) = (l.take i).filter (famP row fam)) := by
            have := HTk.out
            rwa [if_neg (fun q => h1 (fam_iff.1 q).1), List.append_nil] at this
          clear h1
          go_wp2
          go_roundw
          case rel => exact ⟨i + 1, by omega, by go_num, by rw [HT2.out]; exact HO.out, HB.out⟩
          case measure => simp [intOf]; omega
      · obtain rfl : i = n := by omega
        have hO2 := HO.out
        rw [List.take_of_length_le (by rw [HN.out]; exact Nat.le_refl _)] at hO2
        have HO2 := hid hO2
        clear hO2 HO
        obtain ⟨b0, hb0⟩ : ∃ b0, wr.heap.size = b0 := ⟨_, rfl⟩
        clear hb0 b0
        go_wp2_with (go_at_call 27; refine (HS.out _ HB.out).mono ?_; rintro e w7 ⟨v7, s7, rfl, hr7, hq7, hb7⟩; have K7 := hid hr7.cla; have HM7 := hid (HO2.out.below hb7); have B7 := hid (HB.out.trans (hb7.mono HB.out.size)); clear hr7 hb7; obtain ⟨A7, c7, rfl, hc7, hm7, hh7⟩ := K7.out; have H7 := hid hh7; clear hh7 K7; obtain ⟨ma, hma⟩ : ∃ ma, (seenL ver life now s7).length = ma := ⟨_, rfl⟩; have HMa := hid hma; have hlm := hq7.out.2; rw [hma] at hc7 hlm ⊢; clear hma)
        go_loopw [16, 17] (fun vo vi wr => ∃ i : Nat, i ≤ ma ∧ vi = .int .i64 i ∧ Hid (CRow wr w7.heap.size vo (((seenL ver life now s7).take i).filter (famP row fam))) ∧ Hid (Below w7.heap.size w7 wr)) (fun _ vi _ => ma - (intOf vi).toNat)
        case atStart => exact ⟨0, Nat.zero_le _, rfl, (HN0.out w7 w7.heap.size (Nat.le_refl _)), (Below.refl _ _).alloc (Nat.le_refl _) _⟩
        case round =>
          obtain ⟨i, hi, rfl, HO, HB⟩ := hrel
          by_cases hlt : i < ma
          · have hin : i < (seenL ver life now s7).length := by rw [HMa.out]; exact hlt
            have hltz : (i : Int) < (ma : Int) := by omega
            obtain ⟨b, off, rfl, hhc⟩ := H7.out (by omega)
            have hbw : b < w7.heap.size := hhc.lt (by omega)
            obtain ⟨c, hc⟩ : ∃ c, (seenL ver life now s7)[i] = c := ⟨_, rfl⟩
            have P : wr.cell? ⟨b, off + i * 8, none⟩ = some (.string c.r) ∧ wr.cell? ⟨b, off + i * 8 + 1, none⟩ = some (.string c.f) ∧ wr.cell? ⟨b, off + i * 8 + 2, none⟩ = some (.string c.q) ∧ wr.cell? ⟨b, off + i * 8 + 3, none⟩ = some (.int .i64 c.t) ∧ wr.cell? ⟨b, off + i * 8 + 4, none⟩ = some (.int .i64 c.k) ∧ wr.cell? ⟨b, off + i * 8 + 5, none⟩ = some (.int .i64 c.vk) ∧ wr.cell? ⟨b, off + i * 8 + 6, none⟩ = some (.int .i64 c.vn) ∧ wr.cell? ⟨b, off + i * 8 + 7, none⟩ = some (.string c.s) := by
              rw [← hc]
              exact (hhc.below HB.out hbw).words i hin
            have HTk : Hid (((seenL ver life now s7).take (i + 1)).filter (famP row fam) = ((seenL ver life now s7).take i).filter (famP row fam) ++ (if famP row fam c = true then [c] else [])) := by
              unfold Hid
              rw [List.take_add_one, List.getElem?_eq_getElem hin, List.filter_append, hc]
              show _ ++ List.filter (famP row fam) [c] = _
              simp only [List.filter_cons, List.filter_nil]
            have HLn : Hid ((((seenL ver life now s7).take i).filter (famP row fam)).length ≤ 100000) := by
              have h1 := List.length_filter_le (famP row fam) ((seenL ver life now s7).take i)
              have h2 := hlm
              rw [List.length_take] at h1
              unfold Hid; omega
            obtain ⟨p0, p1, p2, p3, p4, p5, p6, p7⟩ := P
            clear hc hhc
            by_cases h1 : c.r = row
            · have q1 : (c.r.toList == row.toList) = true := by rw [h1]; simp
              by_cases h2 : c.f = fam
              · have q2 : (c.f.toList == fam.toList) = true := by rw [h2]; simp
                have HT2 : Hid (((seenL ver life now s7).take (i + 1)).filter (famP row fam) = ((seenL ver life now s7).take i).filter (famP row fam) ++ [c]) := by
                  have := HTk.out
                  rwa [if_pos (fam_iff.2 ⟨h1, h2⟩)] at this
                clear h1 h2
                go_wp2_with (at_builtin; refine wpList_append_cell rfl (.tmp 102) (.tmp 107) rfl _ w7.heap.size _ _ rfl (HO.out.below (below_new _ _)) _ 1 rfl c (ct_new c _ _) HLn.out (by have h1 := B7.out.size; have h2 := HB.out.size; simp; omega) ?_; intro v9 w9 h9 hb9 _)
                go_roundw
                case rel => exact ⟨i + 1, by omega, by go_num, by rw [HT2.out]; exact h9, (HB.out.alloc HB.out.size _).trans hb9⟩
                case measure => simp [intOf]; omega
              · have q2 : (c.f.toList == fam.toList) = false := ba_ne h2
                have HT2 : Hid (((seenL ver life now s7).take (i + 1)).filter (famP row fam) = ((seenL ver life now s7).take i).filter (famP row fam)) := by
                  have := HTk.out
                  rwa [if_neg (fun q => h2 (fam_iff.1 q).2), List.append_nil] at this
                clear h1 h2
                go_wp2
                go_roundw
                case rel => exact ⟨i + 1, by omega, by go_num, by rw [HT2.out]; exact HO.out, HB.out⟩
                case measure => simp [intOf]; omega
            · have q1 : (c.r.toList == row.toList) = false := ba_ne h1
              have HT2 : Hid (((seenL ver life now s7).take (i + 1)).filter (famP row fam) = ((seenL ver life now s7).take i).filter (famP row fam)) := by
                have := HTk.out
                rwa [if_neg (fun q => h1 (fam_iff.1 q).1), List.append_nil] at this
              clear h1
              go_wp2
              go_roundw
              case rel => exact ⟨i + 1, by omega, by go_num, by rw [HT2.out]; exact HO.out, HB.out⟩
              case measure => simp [intOf]; omega
          · obtain rfl : i = ma := by omega
            have hO2 := HO.out
            rw [List.take_of_length_le (by rw [HMa.out]; exact Nat.le_refl _)] at hO2
            have HO2 := hid hO2
            clear hO2 HO
            have BE := hid (B7.out.trans (HB.out.mono B7.out.size))
            have HMm : Hid (CRow wr w.heap.size _ (l.filter (famP row fam))) := HM7.out.below HB.out
            go_wp2_with (first
              | (go_at_call 27; refine (HSm.out _ _ BE.out HMm.out.cla).mono ?_; rintro e w8 ⟨v8, s8, rfl, hr8, hq8, hb8⟩)
              | (go_at_call 26; refine (HSC.out _ _ _ _ _ hr8.cla (HO2.out.below hb8).cla).mono ?_; rintro e w9 ⟨rfl, hb9⟩; rw [HQ.out _ _ hq7.out.1 hq8.out]))
            go_ret
            have hz := BE.out.trans (hb8.mono BE.out.size)
            exact ⟨rfl, hz.trans (hb9.mono hz.size)⟩
end Go.Proofs.YtpjkhholpbfbpaaDoor
