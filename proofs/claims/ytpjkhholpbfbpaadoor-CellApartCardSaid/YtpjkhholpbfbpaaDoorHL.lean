/- cell.Value at every list of cells. Conditions: as cell.Sort's. -/
import Derived.Test.YtpjkhholpbfbpaaDoorHK
import Derived.Deep.QuietTactic
import Derived.BigQuiet
namespace Go.Proofs.YtpjkhholpbfbpaaDoor
open Go.RowKit

/-- The first cell of the column in the first row. -/
def valueM (fam qual : ByteArray) (s : List CT) : List CT → Option CT
  | [] => none
  | c :: l => if c.r = (s.getD 0 default).r ∧ c.f = fam ∧ c.q = qual then some c else valueM fam qual s l
def valV : Option CT → Value
  | some c => .tuple #[.agg #[.int .i64 c.vk, .int .i64 c.vn, .string c.s], .bool true]
  | none => .tuple #[.agg #[.int .i64 0, .int .i64 0, .string ⟨#[]⟩], .bool false]
theorem seenL_len (ver life now : Int) (s : List CT) : (seenL ver life now s).length ≤ s.length := by
  unfold seenL
  split
  · exact seenF_len ver life now SG.zero s
  · exact Nat.zero_le _

set_option maxHeartbeats 4000000 in
set_option maxRecDepth 100000 in
theorem cvalue_any (v : Value) (l : List CT) (hl : l.length ≤ 100000) (fam qual : ByteArray) (ver life now : Int) (w : World) (h : ClA w v l) (hok : ∀ c ∈ l, okC c) (hL : LaidU w) :
    Calls Tryd.prog 46 #[v, .string fam, .string qual, .int .i64 ver, .int .i64 life, .int .i64 now] w fun e w' => ∃ s, e = .returned (valV (valueM fam qual s (seenL ver life now s))) ∧ SortOf l s ∧ Below w.heap.size w w' := by
  have mixed : Tryd.prog.follows .mixedOrders = true := by kernel_rfl
  have HS : Hid (∀ W, Below w.heap.size w W → Calls Tryd.prog 22 #[v] W fun e w' => ∃ v' s, e = .returned v' ∧ SortOf l s ∧ CRow w' W.heap.size v' s ∧ Below W.heap.size W w') := fun W hb => sort_any v l hl W (h.below hb) hok (hL.below hb)
  have HSn : Hid (∀ (W : World) (v5 : Value) (s : List CT) (B : Nat), SortOf l s → CRow W B v5 s → Calls Tryd.prog 55 #[v5, .agg #[.int .i64 ver, .int .i64 life, .int .i64 now]] W fun e w' => ∃ v', e = .returned v' ∧ CRow w' W.heap.size v' (seenL ver life now s) ∧ Below W.heap.size W w') := fun W v5 s B h1 h2 => seen_any v5 s (Nat.le_trans h1.len hl) ver life now W h2.cla
  have HB0 : Hid (Below w.heap.size w (w.alloc (.cells #[.int .i64 0, .int .i64 0, .string ⟨#[]⟩] 26))) := below_new _ _
  have HR0 : Hid (Blk (w.alloc (.cells #[.int .i64 0, .int .i64 0, .string ⟨#[]⟩] 26)) w.heap.size 26 #[.int .i64 0, .int .i64 0, .string ⟨#[]⟩]) := Blk.new _ _ _
  clear h hok hL
  go_enter Tryd.func46, Tryd.ntmps46
  go_wp2_with (first
    | (go_at_call 22; refine (HS.out _ HB0.out).mono ?_; rintro e w5 ⟨v5, s5, rfl, hq5, hr5, hb5⟩)
    | (go_at_call 55; refine (HSn.out _ _ _ _ hq5 hr5).mono ?_; rintro e w6 ⟨v6, rfl, hr6, hb6⟩; have K6 := hid hr6.cla; have K5 := hid (hr5.cla.below hb6); have KB := hid ((HR0.out.keep hb5 HR0.out.lt).keep hb6 (Nat.lt_of_lt_of_le HR0.out.lt hb5.size)); have BW := hid (HB0.out.trans ((hb5.mono HB0.out.size).trans (hb6.mono (Nat.le_trans HB0.out.size hb5.size)))); have HL6 := hid (seenL_len ver life now s5); obtain ⟨sl, hsl⟩ : ∃ sl, seenL ver life now s5 = sl := ⟨_, rfl⟩; have HSL := hid hsl; rw [hsl] at K6 HL6; clear hsl hr6 hr5 hb5 hb6; obtain ⟨A6, c6, rfl, hc6, hm6, hh6⟩ := K6.out; obtain ⟨A5, c5, rfl, hc5, hm5, hh5⟩ := K5.out; have HH6 := hid hh6; have HH5 := hid hh5; clear hh6 hh5 K6 K5; obtain ⟨m, hm⟩ : ∃ m, sl.length = m := ⟨_, rfl⟩; have HM := hid hm; obtain ⟨n5, hn5⟩ : ∃ n5, s5.length = n5 := ⟨_, rfl⟩; have HN5 := hid hn5; rw [hm] at hc6 ⊢; rw [hn5] at hc5 ⊢; clear hm hn5))
  obtain ⟨rb, hrb⟩ : ∃ rb, w.heap.size = rb := ⟨_, rfl⟩
  rw [hrb]
  have HRB := hid hrb
  clear hrb
  go_loopw [26] (fun vi wr => ∃ i : Nat, i ≤ m ∧ vi = .int .i64 i ∧ Hid (Below w6.heap.size w6 wr) ∧ Hid (valueM fam qual s5 sl = valueM fam qual s5 (sl.drop i))) (fun vi _ => m - (intOf vi).toNat)
  case atStart => exact ⟨0, Nat.zero_le _, rfl, Below.refl _ _, rfl⟩
  case round =>
    obtain ⟨i, hi, rfl, HB, HV⟩ := hrel
    by_cases hlt : i < m
    · have him : i < sl.length := by rw [HM.out]; exact hlt
      have hltz : (i : Int) < (m : Int) := by omega
      obtain ⟨b, off, rfl, hhc⟩ := HH6.out (by rw [HM.out]; omega)
      have h05 : 0 < s5.length := by have := HL6.out; omega
      have hn50 : (0 : Int) < (n5 : Int) := by have := HN5.out; omega
      obtain ⟨b5, off5, rfl, hhd⟩ := HH5.out h05
      have hbw : b < w6.heap.size := hhc.lt (by omega)
      have hbw5 : b5 < w6.heap.size := hhd.lt h05
      obtain ⟨c, hc⟩ : ∃ c, sl[i] = c := ⟨_, rfl⟩
      obtain ⟨d, hd⟩ : ∃ d, s5[0] = d := ⟨_, rfl⟩
      have HD : Hid (valueM fam qual s5 (sl.drop i) = if c.r = d.r ∧ c.f = fam ∧ c.q = qual then some c else valueM fam qual s5 (sl.drop (i + 1))) := by
        unfold Hid
        rw [List.drop_eq_getElem_cons him, hc]
        show (if c.r = (s5.getD 0 default).r ∧ c.f = fam ∧ c.q = qual then some c else _) = _
        rw [List.getD_eq_getElem?_getD, List.getElem?_eq_getElem h05, hd]
        rfl
      have P : wr.cell? ⟨b, off + i * 8, none⟩ = some (.string c.r) ∧ wr.cell? ⟨b, off + i * 8 + 1, none⟩ = some (.string c.f) ∧ wr.cell? ⟨b, off + i * 8 + 2, none⟩ = some (.string c.q) ∧ wr.cell? ⟨b, off + i * 8 + 3, none⟩ = some (.int .i64 c.t) ∧ wr.cell? ⟨b, off + i * 8 + 4, none⟩ = some (.int .i64 c.k) ∧ wr.cell? ⟨b, off + i * 8 + 5, none⟩ = some (.int .i64 c.vk) ∧ wr.cell? ⟨b, off + i * 8 + 6, none⟩ = some (.int .i64 c.vn) ∧ wr.cell? ⟨b, off + i * 8 + 7, none⟩ = some (.string c.s) := by
        rw [← hc]
        exact (hhc.below HB.out hbw).words i him
      have z0 : Hid (∀ W, Below wr.heap.size wr W → W.cell? ⟨b5, off5, none⟩ = some (.string d.r)) := fun W hW => by
        have := ((hhd.below HB.out hbw5).below hW (Nat.lt_of_lt_of_le hbw5 HB.out.size)).words 0 h05
        rw [Nat.zero_mul, Nat.add_zero, hd] at this
        exact this.1
      obtain ⟨p0, p1, p2, p3, p4, p5, p6, p7⟩ := P
      clear hc hhc hd hhd
      go_upto_region 5 with (fail)
      obtain ⟨bb, hbb⟩ : ∃ bb, wr.heap.size = bb := ⟨_, rfl⟩
      refine wp_ltc (fun W => Hid (Blk W bb 28 c.e.toArray ∧ Below wr.heap.size wr W) ∧ W.cell? ⟨bb, 0, none⟩ = some (.string c.r) ∧ W.cell? ⟨bb, 1, none⟩ = some (.string c.f) ∧ W.cell? ⟨bb, 2, none⟩ = some (.string c.q) ∧ W.cell? ⟨bb, 3, none⟩ = some (.int .i64 c.t) ∧ W.cell? ⟨bb, 4, none⟩ = some (.int .i64 c.k) ∧ W.cell? ⟨bb, 5, none⟩ = some (.int .i64 c.vk) ∧ W.cell? ⟨bb, 6, none⟩ = some (.int .i64 c.vn) ∧ W.cell? ⟨bb, 7, none⟩ = some (.string c.s)) (by rw [← hbb]; have hB := Blk.new wr 28 c.e.toArray; exact ⟨⟨hB, below_new _ _⟩, blk_words hB⟩) (fun W hW => ?_)
      rw [hbb]
      obtain ⟨HW, b0, b1, b2, b3, b4, b5, b6, b7⟩ := hW
      have d0 := z0.out W HW.out.2
      have HB2 : Hid (Below w6.heap.size w6 W) := HB.out.trans (HW.out.2.mono HB.out.size)
      clear p0 p1 p2 p3 p4 p5 p6 p7 hbb HB z0
      by_cases h1 : c.r = d.r
      · have q1 : (c.r.toList == d.r.toList) = true := by rw [h1]; simp
        by_cases h2 : c.f = fam
        · have q2 : (c.f.toList == fam.toList) = true := by rw [h2]; simp
          by_cases h3 : c.q = qual
          · have q3 : (c.q.toList == qual.toList) = true := by rw [h3]; simp
            have HV2 : Hid (valueM fam qual s5 sl = some c) := by
              unfold Hid
              rw [HV.out, HD.out]
              exact if_pos ⟨h1, h2, h3⟩
            have KB2 := KB.out.keep HB2.out KB.out.lt
            rw [HRB.out] at KB2
            have g0 : W.cell? ⟨rb, 0, none⟩ = some (.int .i64 0) := KB2.cell 0
            have g1 : W.cell? ⟨rb, 1, none⟩ = some (.int .i64 0) := KB2.cell 1
            have g2 : W.cell? ⟨rb, 2, none⟩ = some (.string ⟨#[]⟩) := KB2.cell 2
            have gf : ∀ j, W.frozen? ⟨rb, j, none⟩ = false := fun j => KB2.free j
            clear h1 h2 h3 KB2
            go_quiet (fail)
            go_wp2
            try simp only [Exit.inBlock, Exit.then]
            refine bodyPost_ret (v := .tuple #[.agg #[.int .i64 c.vk, .int .i64 c.vn, .string c.s], .bool true]) (by simp [results, Tryd.results46, go_sem, cell_set_same, g0, g1, g2]) rfl ?_
            refine ⟨s5, ?_, hq5, ?_⟩
            · rw [HSL.out, HV2.out]
              rfl
            · have hrb := HRB.out
              exact ((((BW.out.trans (HB2.out.mono BW.out.size)).trans (below_drewN (Below.refl _ _) _)).setCell (p := ⟨rb, 0, none⟩) (Nat.le_of_eq hrb) _).setCell (p := ⟨rb, 1, none⟩) (Nat.le_of_eq hrb) _).setCell (p := ⟨rb, 2, none⟩) (Nat.le_of_eq hrb) _
          · have q3 : (c.q.toList == qual.toList) = false := ba_ne h3
            
            have HV2 : Hid (valueM fam qual s5 sl = valueM fam qual s5 (sl.drop (i + 1))) := by
              unfold Hid
              rw [HV.out, HD.out]
              exact if_neg (fun h => h3 h.2.2)
            
            go_quiet (fail)
            go_wp2
            go_roundw
            case rel => exact ⟨i + 1, by omega, by go_num, below_drewN HB2.out _, HV2.out⟩
            case measure => simp [intOf]; omega
        · have q2 : (c.f.toList == fam.toList) = false := ba_ne h2
          
          have HV2 : Hid (valueM fam qual s5 sl = valueM fam qual s5 (sl.drop (i + 1))) := by
            unfold Hid
            rw [HV.out, HD.out]
            exact if_neg (fun h => h2 h.2.1)
          
          go_quiet (fail)
          go_wp2
          go_roundw
          case rel => exact ⟨i + 1, by omega, by go_num, below_drewN HB2.out _, HV2.out⟩
          case measure => simp [intOf]; omega
      · have q1 : (c.r.toList == d.r.toList) = false := ba_ne h1
        
        have HV2 : Hid (valueM fam qual s5 sl = valueM fam qual s5 (sl.drop (i + 1))) := by
          unfold Hid
          rw [HV.out, HD.out]
          exact if_neg (fun h => h1 h.1)
        
        go_quiet (fail)
        go_wp2
        go_roundw
        case rel => exact ⟨i + 1, by omega, by go_num, below_drewN HB2.out _, HV2.out⟩
        case measure => simp [intOf]; omega
    · obtain rfl : i = m := by omega
      have HV2 : Hid (valueM fam qual s5 sl = none) := by
        unfold Hid
        rw [HV.out, List.drop_of_length_le (by rw [HM.out]; exact Nat.le_refl _)]
        rfl
      have KB2 := KB.out.keep HB.out KB.out.lt
      rw [HRB.out] at KB2
      have g0 : wr.cell? ⟨rb, 0, none⟩ = some (.int .i64 0) := KB2.cell 0
      have g1 : wr.cell? ⟨rb, 1, none⟩ = some (.int .i64 0) := KB2.cell 1
      have g2 : wr.cell? ⟨rb, 2, none⟩ = some (.string ⟨#[]⟩) := KB2.cell 2
      have gf : ∀ j, wr.frozen? ⟨rb, j, none⟩ = false := fun j => KB2.free j
      clear KB2
      go_wp2
      try simp only [Exit.inBlock, Exit.then]
      refine bodyPost_ret (v := .tuple #[.agg #[.int .i64 0, .int .i64 0, .string ⟨#[]⟩], .bool false]) (by simp [results, Tryd.results46, go_sem, cell_set_same, g0, g1, g2]) rfl ?_
      refine ⟨s5, ?_, hq5, ?_⟩
      · rw [HSL.out, HV2.out]
        rfl
      · have hrb := HRB.out
        exact (((BW.out.trans (HB.out.mono BW.out.size)).setCell (p := ⟨rb, 0, none⟩) (Nat.le_of_eq hrb) _).setCell (p := ⟨rb, 1, none⟩) (Nat.le_of_eq hrb) _).setCell (p := ⟨rb, 2, none⟩) (Nat.le_of_eq hrb) _
end Go.Proofs.YtpjkhholpbfbpaaDoor
