/- Several texts in one: KD HL HM IA IB JC JD ID JA. Conditions: as each theorem names them. -/
import Derived.Test.YtdjaofbjmnmlbaaDoorMHGHK
import Derived.Deep.AppendSrc
import Derived.Deep.QuietTactic
import Derived.BigQuiet
import Derived.Test.YtdjaofbjmnmlbaaDoorShelfB
import Derived.Lib.OwnBridge
import Derived.Lib.QuietBelow
import Derived.KernelRfl
/- joistref00.CopyCells, and what is appended to lists of cells. Conditions: the slices hold their cells, a hundred thousand at most. -/
namespace Go.Proofs.YtdjaofbjmnmlbaaDoor
open Go.RowKit

/-- Nothing is appended. -/
theorem run_append_nocell (w : World) (B : Nat) (v : Value) (l : List CT) (h : CRow w B v l) (c : Nat) : (Builtin.append_ #[39, 39] 39 #[v, .slice none 0 c]).run Tryd.prog w = .ok v w := by
  obtain ⟨i0, hi, hz0, hz1, hz2⟩ := info_parts info_cell
  obtain ⟨h1, h2⟩ := h
  rcases h2 with ⟨rfl, h0⟩ | ⟨g, cap, cur, rfl, hB, hh, hn, hm, hs, ht⟩
  · have h1 := run_underlying (P := Tryd.prog) Tryd.underlying39
    have hlen : (Builtin.lenOf (.slice none 0 c)).run Tryd.prog w = .ok 0 w := rfl
    simp [Builtin.append_, h1, sizeOf, typeInfo, hi, Builtin.firstCells, hlen]
  · have := run_append_room_src (P := Tryd.prog) (w := w) 39 39 39 28 i0 Tryd.underlying39 hi g 0 l.length cap (.slice none 0 c) 0 [] (Src.ofNil w Tryd.underlying39 c) (by omega) (fun j hj => absurd hj (by simp)) (fun j hj => absurd hj (by simp))
    rw [this]
    rfl

section
variable {ops : Array Oper} {rest : List Oper} {o : Oper} {a : Act} {Q : Exit → Act → World → Prop}
/-- append of a slice that holds some cells, or none, to a row of the call's own. -/
theorem wpList_append_cells (hgd : o.guard = Option.none) (s x : Operand)
    (ho : o.op = .call { callee := .builtin .append, args := #[s, x], argTypes := #[39, 39] }) (hty : o.type = 39)
    (w : World) (base : Nat) (v : Value) (l : List CT) (hs : a.eval s = v) (hown : CRow w base v l)
    (m : Value) (news : List CT) (hx : a.eval x = m) (hnews : ClA w m news)
    (hlen : l.length + news.length ≤ 1466015503700) (hbase : base ≤ w.heap.size)
    (h : ∀ v' w', CRow w' base v' (l ++ news) → Below base w w' → w.grownBy w' v.ownBlock → wpList Tryd.prog ops Q rest (a.put o.dst v') w') : wpList Tryd.prog ops Q (o :: rest) a w := by
  obtain ⟨i0, hi, hz0, hz1, hz2⟩ := info_parts info_cell
  obtain ⟨A, c, rfl, hc1, hc2, hh⟩ := hnews
  match A, hx, hh with
  | none, hx, hh =>
    have h0 : news = [] := by
      cases news with
      | nil => rfl
      | cons y t => obtain ⟨b, off, e, _⟩ := hh (by simp); cases e
    subst h0
    refine Lib.wpList_append_run w hgd s x 39 39 ho v _ hs hx v w ?_ (h v w (by rwa [List.append_nil]) (Below.refl _ _) ⟨rfl, rfl, rfl, Nat.le_refl _, fun _ _ _ => rfl⟩)
    rw [hty]
    exact run_append_nocell w base v l hown c
  | some ad, hx, hh =>
    refine wpList_append_own w hgd s x 39 ho base 28 i0 _ 8 96 Tryd.underlying39 hi hz0 hz1 hz2 rfl (by decide) v l.length (flatC l) hs hown ad news.length c (flatC news) hx (flatC_len news) (fun j u hu => ?_) (fun u hu => ?_) (by unfold maxLen; omega) (by omega) hbase ?_
    · have hj : j < (flatC news).length := by
        rcases Nat.lt_or_ge j (flatC news).length with h1 | h1
        · exact h1
        · rw [List.getElem?_eq_none h1] at hu; cases hu
      rw [flatC_len] at hj
      obtain ⟨b, off, e, hh2⟩ := hh (by omega)
      cases e
      have hi8 : j / 8 < news.length := by omega
      have h1 := hh2 (j / 8) hi8 (j % 8) (by omega)
      have h2 := flatC_at news (j / 8) (j % 8) hi8 (by omega)
      rw [show off + j / 8 * 8 + j % 8 = off + j by omega] at h1
      rw [show j / 8 * 8 + j % 8 = j by omega] at h2
      rw [add_zero_off, h1, ← h2]
      exact hu
    · have : ∀ (t : List CT), ∀ u ∈ flatC t, u.oneCell' = true := by
        intro t
        induction t with
        | nil => intro u hu; cases hu
        | cons y t ih =>
          intro u hu
          rcases List.mem_append.1 hu with hu | hu
          · exact y.e_one u hu
          · exact ih u hu
      exact this news u hu
    · intro v' w' h1 h2 _
      refine h v' w' ?_ ((Below.refl _ _).grown h2 hbase fun k hk => (World.ownsRow.lt hown k hk).1) h2
      unfold CRow
      rw [flatC_app, List.length_append]
      exact h1
end

theorem empty_crow (W : World) (B : Nat) (hB : B ≤ W.heap.size) : CRow (W.alloc (.cells #[] 28)) B (.slice (some ⟨W.heap.size, 0, none⟩) 0 0) [] := ⟨rfl, .inr ⟨W.heap.size, 0, #[], rfl, hB, Blk.new _ _ _, Nat.le_refl _, by unfold maxLen; omega, rfl, rfl⟩⟩
set_option maxHeartbeats 1000000 in
theorem copycells_any (v : Value) (l : List CT) (hl : l.length ≤ 1466015503658) (w : World) (h : ClA w v l) :
    Calls Tryd.prog 28 #[v] w fun e w' => ∃ v', e = .returned v' ∧ CRow w' w.heap.size v' l ∧ Below w.heap.size w w' := by
  have HS := hid h
  have HR := hid (empty_crow w w.heap.size (Nat.le_refl _))
  have HL := hid hl
  obtain ⟨A, c, rfl, _⟩ := h
  clear hl
  go_enter Tryd.func28, Tryd.ntmps28
  go_wp2_with (at_builtin; refine wpList_append_cells rfl (.tmp 5) (.tmp 6) rfl rfl _ w.heap.size _ [] rfl HR.out _ l rfl (HS.out.below (below_new w _)) (by have := HL.out; simp only [List.length_nil]; omega) (by simp) ?_; intro v' w' hR' hb' _)
  go_ret
  exact ⟨_, rfl, hR', (below_new w _).trans hb'⟩
end Go.Proofs.YtdjaofbjmnmlbaaDoor

/- cell.Value at every list of cells. Conditions: as cell.Sort's. -/
namespace Go.Proofs.YtdjaofbjmnmlbaaDoor
open Go.RowKit

/-- The first cell of the column in the first row. -/
def valueM (fam qual : ByteArray) (s : List CT) : List CT → Option CT
  | [] => none
  | c :: l => if c.r = (s.getD 0 default).r ∧ c.f = fam ∧ c.q = qual then some c else valueM fam qual s l
def valV : Option CT → Value
  | some c => .tuple #[.agg #[.int .i64 c.vk, .int .i64 c.vn, .string c.s], .bool true]
  | none => .tuple #[.agg #[.int .i64 0, .int .i64 0, .string ⟨#[]⟩], .bool false]
theorem seenL_len (ver life now : Int) (s : List CT) : (seenL ver life now s).length ≤ s.length := by
  unfold seenL
  split
  · exact seenF_len ver life now SG.zero s
  · exact Nat.zero_le _

set_option maxHeartbeats 4000000 in
set_option maxRecDepth 100000 in
theorem cvalue_any (v : Value) (l : List CT) (hl : l.length ≤ 100000) (fam qual : ByteArray) (ver life now : Int) (w : World) (h : ClA w v l) (hok : ∀ c ∈ l, okC c) (hL : LaidU w) :
    Calls Tryd.prog 70 #[v, .string fam, .string qual, .int .i64 ver, .int .i64 life, .int .i64 now] w fun e w' => ∃ s, e = .returned (valV (valueM fam qual s (seenL ver life now s))) ∧ SortOf l s ∧ Below w.heap.size w w' := by
  have mixed : Tryd.prog.follows .mixedOrders = true := by kernel_rfl
  have HS : Hid (∀ W, Below w.heap.size w W → Calls Tryd.prog 25 #[v] W fun e w' => ∃ v' s, e = .returned v' ∧ SortOf l s ∧ CRow w' W.heap.size v' s ∧ Below W.heap.size W w') := fun W hb => sort_any v l hl W (h.below hb) hok (hL.below hb)
  have HSn : Hid (∀ (W : World) (v5 : Value) (s : List CT) (B : Nat), SortOf l s → CRow W B v5 s → Calls Tryd.prog 79 #[v5, .agg #[.int .i64 ver, .int .i64 life, .int .i64 now]] W fun e w' => ∃ v', e = .returned v' ∧ CRow w' W.heap.size v' (seenL ver life now s) ∧ Below W.heap.size W w') := fun W v5 s B h1 h2 => seen_any v5 s (Nat.le_trans h1.len hl) ver life now W h2.cla
  have HB0 : Hid (Below w.heap.size w (w.alloc (.cells #[.int .i64 0, .int .i64 0, .string ⟨#[]⟩] 26))) := below_new _ _
  have HR0 : Hid (Blk (w.alloc (.cells #[.int .i64 0, .int .i64 0, .string ⟨#[]⟩] 26)) w.heap.size 26 #[.int .i64 0, .int .i64 0, .string ⟨#[]⟩]) := Blk.new _ _ _
  clear h hok hL
  go_enter Tryd.func70, Tryd.ntmps70
  go_wp2_with (first
    | (go_at_call 25; refine (HS.out _ HB0.out).mono ?_; rintro e w5 ⟨v5, s5, rfl, hq5, hr5, hb5⟩)
    | (go_at_call 79; refine (HSn.out _ _ _ _ hq5 hr5).mono ?_; rintro e w6 ⟨v6, rfl, hr6, hb6⟩; have K6 := hid hr6.cla; have K5 := hid (hr5.cla.below hb6); have KB := hid ((HR0.out.keep hb5 HR0.out.lt).keep hb6 (Nat.lt_of_lt_of_le HR0.out.lt hb5.size)); have BW := hid (HB0.out.trans ((hb5.mono HB0.out.size).trans (hb6.mono (Nat.le_trans HB0.out.size hb5.size)))); have HL6 := hid (seenL_len ver life now s5); obtain ⟨sl, hsl⟩ : ∃ sl, seenL ver life now s5 = sl := ⟨_, rfl⟩; have HSL := hid hsl; rw [hsl] at K6 HL6; clear hsl hr6 hr5 hb5 hb6; obtain ⟨A6, c6, rfl, hc6, hm6, hh6⟩ := K6.out; obtain ⟨A5, c5, rfl, hc5, hm5, hh5⟩ := K5.out; have HH6 := hid hh6; have HH5 := hid hh5; clear hh6 hh5 K6 K5; obtain ⟨m, hm⟩ : ∃ m, sl.length = m := ⟨_, rfl⟩; have HM := hid hm; obtain ⟨n5, hn5⟩ : ∃ n5, s5.length = n5 := ⟨_, rfl⟩; have HN5 := hid hn5; rw [hm] at hc6 ⊢; rw [hn5] at hc5 ⊢; clear hm hn5))
  obtain ⟨rb, hrb⟩ : ∃ rb, w.heap.size = rb := ⟨_, rfl⟩
  rw [hrb]
  have HRB := hid hrb
  clear hrb
  go_loopw [26] (fun vi wr => ∃ i : Nat, i ≤ m ∧ vi = .int .i64 i ∧ Hid (Below w6.heap.size w6 wr) ∧ Hid (valueM fam qual s5 sl = valueM fam qual s5 (sl.drop i))) (fun vi _ => m - (intOf vi).toNat)
  case atStart => exact ⟨0, Nat.zero_le _, rfl, Below.refl _ _, rfl⟩
  case round =>
    obtain ⟨i, hi, rfl, HB, HV⟩ := hrel
    by_cases hlt : i < m
    · have him : i < sl.length := by rw [HM.out]; exact hlt
      have hltz : (i : Int) < (m : Int) := by omega
      obtain ⟨b, off, rfl, hhc⟩ := HH6.out (by rw [HM.out]; omega)
      have h05 : 0 < s5.length := by have := HL6.out; omega
      have hn50 : (0 : Int) < (n5 : Int) := by have := HN5.out; omega
      obtain ⟨b5, off5, rfl, hhd⟩ := HH5.out h05
      have hbw : b < w6.heap.size := hhc.lt (by omega)
      have hbw5 : b5 < w6.heap.size := hhd.lt h05
      obtain ⟨c, hc⟩ : ∃ c, sl[i] = c := ⟨_, rfl⟩
      obtain ⟨d, hd⟩ : ∃ d, s5[0] = d := ⟨_, rfl⟩
      have HD : Hid (valueM fam qual s5 (sl.drop i) = if c.r = d.r ∧ c.f = fam ∧ c.q = qual then some c else valueM fam qual s5 (sl.drop (i + 1))) := by
        unfold Hid
        rw [List.drop_eq_getElem_cons him, hc]
        show (if c.r = (s5.getD 0 default).r ∧ c.f = fam ∧ c.q = qual then some c else _) = _
        rw [List.getD_eq_getElem?_getD, List.getElem?_eq_getElem h05, hd]
        rfl
      have P : wr.cell? ⟨b, off + i * 8, none⟩ = some (.string c.r) ∧ wr.cell? ⟨b, off + i * 8 + 1, none⟩ = some (.string c.f) ∧ wr.cell? ⟨b, off + i * 8 + 2, none⟩ = some (.string c.q) ∧ wr.cell? ⟨b, off + i * 8 + 3, none⟩ = some (.int .i64 c.t) ∧ wr.cell? ⟨b, off + i * 8 + 4, none⟩ = some (.int .i64 c.k) ∧ wr.cell? ⟨b, off + i * 8 + 5, none⟩ = some (.int .i64 c.vk) ∧ wr.cell? ⟨b, off + i * 8 + 6, none⟩ = some (.int .i64 c.vn) ∧ wr.cell? ⟨b, off + i * 8 + 7, none⟩ = some (.string c.s) := by
        rw [← hc]
        exact (hhc.below HB.out hbw).words i him
      have z0 : Hid (∀ W, Below wr.heap.size wr W → W.cell? ⟨b5, off5, none⟩ = some (.string d.r)) := fun W hW => by
        have := ((hhd.below HB.out hbw5).below hW (Nat.lt_of_lt_of_le hbw5 HB.out.size)).words 0 h05
        rw [Nat.zero_mul, Nat.add_zero, hd] at this
        exact this.1
      obtain ⟨p0, p1, p2, p3, p4, p5, p6, p7⟩ := P
      clear hc hhc hd hhd
      go_upto_region 5 with (fail)
      obtain ⟨bb, hbb⟩ : ∃ bb, wr.heap.size = bb := ⟨_, rfl⟩
      refine wp_ltc (fun W => Hid (Blk W bb 28 c.e.toArray ∧ Below wr.heap.size wr W) ∧ W.cell? ⟨bb, 0, none⟩ = some (.string c.r) ∧ W.cell? ⟨bb, 1, none⟩ = some (.string c.f) ∧ W.cell? ⟨bb, 2, none⟩ = some (.string c.q) ∧ W.cell? ⟨bb, 3, none⟩ = some (.int .i64 c.t) ∧ W.cell? ⟨bb, 4, none⟩ = some (.int .i64 c.k) ∧ W.cell? ⟨bb, 5, none⟩ = some (.int .i64 c.vk) ∧ W.cell? ⟨bb, 6, none⟩ = some (.int .i64 c.vn) ∧ W.cell? ⟨bb, 7, none⟩ = some (.string c.s)) (by rw [← hbb]; have hB := Blk.new wr 28 c.e.toArray; exact ⟨⟨hB, below_new _ _⟩, blk_words hB⟩) (fun W hW => ?_)
      rw [hbb]
      obtain ⟨HW, b0, b1, b2, b3, b4, b5, b6, b7⟩ := hW
      have d0 := z0.out W HW.out.2
      have HB2 : Hid (Below w6.heap.size w6 W) := HB.out.trans (HW.out.2.mono HB.out.size)
      clear p0 p1 p2 p3 p4 p5 p6 p7 hbb HB z0
      by_cases h1 : c.r = d.r
      · have q1 : (c.r.toList == d.r.toList) = true := by rw [h1]; simp
        by_cases h2 : c.f = fam
        · have q2 : (c.f.toList == fam.toList) = true := by rw [h2]; simp
          by_cases h3 : c.q = qual
          · have q3 : (c.q.toList == qual.toList) = true := by rw [h3]; simp
            have HV2 : Hid (valueM fam qual s5 sl = some c) := by
              unfold Hid
              rw [HV.out, HD.out]
              exact if_pos ⟨h1, h2, h3⟩
            have KB2 := KB.out.keep HB2.out KB.out.lt
            rw [HRB.out] at KB2
            have g0 : W.cell? ⟨rb, 0, none⟩ = some (.int .i64 0) := KB2.cell 0
            have g1 : W.cell? ⟨rb, 1, none⟩ = some (.int .i64 0) := KB2.cell 1
            have g2 : W.cell? ⟨rb, 2, none⟩ = some (.string ⟨#[]⟩) := KB2.cell 2
            have gf : ∀ j, W.frozen? ⟨rb, j, none⟩ = false := fun j => KB2.free j
            clear h1 h2 h3 KB2
            go_quiet (fail)
            go_wp2
            try simp only [Exit.inBlock, Exit.then]
            refine bodyPost_ret (v := .tuple #[.agg #[.int .i64 c.vk, .int .i64 c.vn, .string c.s], .bool true]) (by simp [results, Tryd.results70, go_sem, cell_set_same, g0, g1, g2]) rfl ?_
            refine ⟨s5, ?_, hq5, ?_⟩
            · rw [HSL.out, HV2.out]
              rfl
            · have hrb := HRB.out
              exact ((((BW.out.trans (HB2.out.mono BW.out.size)).trans (below_drewN (Below.refl _ _) _)).setCell (p := ⟨rb, 0, none⟩) (Nat.le_of_eq hrb) _).setCell (p := ⟨rb, 1, none⟩) (Nat.le_of_eq hrb) _).setCell (p := ⟨rb, 2, none⟩) (Nat.le_of_eq hrb) _
          · have q3 : (c.q.toList == qual.toList) = false := ba_ne h3
            
            have HV2 : Hid (valueM fam qual s5 sl = valueM fam qual s5 (sl.drop (i + 1))) := by
              unfold Hid
              rw [HV.out, HD.out]
              exact if_neg (fun h => h3 h.2.2)
            
            go_quiet (fail)
            go_wp2
            go_roundw
            case rel => exact ⟨i + 1, by omega, by go_num, below_drewN HB2.out _, HV2.out⟩
            case measure => simp [intOf]; omega
        · have q2 : (c.f.toList == fam.toList) = false := ba_ne h2
          
          have HV2 : Hid (valueM fam qual s5 sl = valueM fam qual s5 (sl.drop (i + 1))) := by
            unfold Hid
            rw [HV.out, HD.out]
            exact if_neg (fun h => h2 h.2.1)
          
          go_quiet (fail)
          go_wp2
          go_roundw
          case rel => exact ⟨i + 1, by omega, by go_num, below_drewN HB2.out _, HV2.out⟩
          case measure => simp [intOf]; omega
      · have q1 : (c.r.toList == d.r.toList) = false := ba_ne h1
        
        have HV2 : Hid (valueM fam qual s5 sl = valueM fam qual s5 (sl.drop (i + 1))) := by
          unfold Hid
          rw [HV.out, HD.out]
          exact if_neg (fun h => h1 h.1)
        
        go_quiet (fail)
        go_wp2
        go_roundw
        case rel => exact ⟨i + 1, by omega, by go_num, below_drewN HB2.out _, HV2.out⟩
        case measure => simp [intOf]; omega
    · obtain rfl : i = m := by omega
      have HV2 : Hid (valueM fam qual s5 sl = none) := by
        unfold Hid
        rw [HV.out, List.drop_of_length_le (by rw [HM.out]; exact Nat.le_refl _)]
        rfl
      have KB2 := KB.out.keep HB.out KB.out.lt
      rw [HRB.out] at KB2
      have g0 : wr.cell? ⟨rb, 0, none⟩ = some (.int .i64 0) := KB2.cell 0
      have g1 : wr.cell? ⟨rb, 1, none⟩ = some (.int .i64 0) := KB2.cell 1
      have g2 : wr.cell? ⟨rb, 2, none⟩ = some (.string ⟨#[]⟩) := KB2.cell 2
      have gf : ∀ j, wr.frozen? ⟨rb, j, none⟩ = false := fun j => KB2.free j
      clear KB2
      go_wp2
      try simp only [Exit.inBlock, Exit.then]
      refine bodyPost_ret (v := .tuple #[.agg #[.int .i64 0, .int .i64 0, .string ⟨#[]⟩], .bool false]) (by simp [results, Tryd.results70, go_sem, cell_set_same, g0, g1, g2]) rfl ?_
      refine ⟨s5, ?_, hq5, ?_⟩
      · rw [HSL.out, HV2.out]
        rfl
      · have hrb := HRB.out
        exact (((BW.out.trans (HB.out.mono BW.out.size)).setCell (p := ⟨rb, 0, none⟩) (Nat.le_of_eq hrb) _).setCell (p := ⟨rb, 1, none⟩) (Nat.le_of_eq hrb) _).setCell (p := ⟨rb, 2, none⟩) (Nat.le_of_eq hrb) _
end Go.Proofs.YtdjaofbjmnmlbaaDoor

/- cell.Rows at every list of cells. Conditions: a hundred thousand cells at most. -/
namespace Go.Proofs.YtdjaofbjmnmlbaaDoor
open Go.RowKit Go.Sort Go.Lib

/-- A row of the call's own that holds the texts ss. -/
def SRow (w : World) (B : Nat) (v : Value) (ss : List (List UInt8)) : Prop := w.ownsRow B 9 1 v ss.length (ss.map encStr)
theorem SRow.none (w : World) (B : Nat) : SRow w B (.slice none 0 0) [] := ⟨rfl, .inl ⟨rfl, rfl⟩⟩
theorem SRow.below {w w' : World} {B : Nat} {v : Value} {ss : List (List UInt8)} (h : SRow w B v ss) (hb : Below w.heap.size w w') : SRow w' B v ss := by
  refine ⟨h.1, ?_⟩
  rcases h.2 with h | ⟨g, cap, cur, e, h1, h2, hr⟩
  · exact .inl h
  · have hg : g < w.heap.size := by
      rcases Nat.lt_or_ge g w.heap.size with h' | h'
      · exact h'
      · rw [Array.getElem?_eq_none h'] at h2; cases h2
    exact .inr ⟨g, cap, cur, e, h1, by rw [hb.block g hg]; exact h2, hr⟩
theorem info_str : (Tryd.prog.info? 9).map (fun i => (i.zero, i.size, i.bytes)) = some (some (.string ⟨#[]⟩), 1, 16) := by kernel_rfl

section
variable {ops : Array Oper} {rest : List Oper} {o : Oper} {a : Act} {Q : Exit → Act → World → Prop}
set_option maxRecDepth 100000 in
/-- append of one text to a row of the call's own. -/
theorem wpList_append_text (hgd : o.guard = Option.none) (s x : Operand)
    (ho : o.op = .call { callee := .builtin .append, args := #[s, x], argTypes := #[89, 89] })
    (w : World) (base : Nat) (v : Value) (l : List (List UInt8)) (hs : a.eval s = v) (hown : SRow w base v l)
    (G : Nat) (m : Nat) (hx : a.eval x = .slice (some ⟨G, 0, Option.none⟩) 1 m) (y : ByteArray) (hc : w.cell? ⟨G, 0, Option.none⟩ = some (.string y))
    (hlen : l.length ≤ 100000) (hbase : base ≤ w.heap.size)
    (h : ∀ v' w', SRow w' base v' (l ++ [y.data.toList]) → Below base w w' → wpList Tryd.prog ops Q rest (a.put o.dst v') w') : wpList Tryd.prog ops Q (o :: rest) a w := by
  obtain ⟨i0, hi, hz0, hz1, hz2⟩ := info_parts info_str
  refine wpList_append_own w hgd s x 89 ho base 9 i0 _ 1 16 Tryd.underlying89 hi hz0 hz1 hz2 rfl (by decide) v l.length (l.map encStr) hs hown ⟨G, 0, Option.none⟩ 1 m [.string y] hx rfl (fun j u hu => ?_) (fun u hu => by rw [List.mem_singleton.1 hu]; rfl) (by unfold maxLen; omega) (by omega) hbase ?_
  · cases j with
    | zero =>
      injection hu with hu
      rw [← hu]
      exact hc
    | succ j => cases hu
  intro v' w' h1 h2 _
  refine h v' w' ?_ ((Below.refl _ _).grown h2 hbase fun k hk => (World.ownsRow.lt hown k hk).1)
  unfold SRow
  rw [List.map_append, List.length_append]
  exact h1
end

theorem below_grows (w : World) (os : Array Obj) : Below w.heap.size w (grow w os) := ⟨rfl, rfl, rfl, by simp [grow], fun k hk => by simp [grow, Array.getElem?_append_left hk]⟩
theorem srow_sort (B : Nat) (v : Value) (ss : List (List UInt8)) (hl : ss.length ≤ 100000) (w : World) (h : SRow w B v ss) (hB : B ≤ w.heap.size) :
    Calls Tryd.prog 120 #[v] w fun e w' => e = .returned (.tuple #[]) ∧ SRow w' B v (ss.mergeSort fun x y => decide (x ≤ y)) ∧ Below B w w' := by
  by_cases hv : v = .slice none 0 0
  · subst hv
    have e0 : ss = [] := by
      rcases h.2 with ⟨_, hz⟩ | ⟨g, cap, cur, e, _⟩
      · exact List.eq_nil_of_length_eq_zero hz
      · cases e
    subst e0
    refine (Tryd.slices_Sort_string_none none 0 w).mono ?_
    rintro e w' ⟨rfl, rfl⟩
    exact ⟨rfl, by rw [List.mergeSort_nil]; exact h, Below.refl _ _⟩
  · obtain ⟨g, cap, rfl, hBg, hgw, hc1, hc2, hl', hH⟩ := holds_of_ownsRow h hv
    refine (Tryd.slices_Sort_string g 0 cap ss w hH hgw (by omega)).mono ?_
    rintro e w' ⟨rfl, n, os, rfl⟩
    have hlen : (ss.mergeSort fun x y => decide (x ≤ y)).length = ss.length := List.length_mergeSort _
    have h1 := ownsRow_putRow (q := n) (k := ss.length) h hlen (Nat.le_refl _)
    rw [List.take_of_length_le (by rw [hlen]; exact Nat.le_refl _)] at h1
    have h2 : SRow (putRow encStr (Sort.ahead w n) g 0 (ss.mergeSort fun x y => decide (x ≤ y)).toArray) B (.slice (some ⟨g, 0, none⟩) ss.length cap) (ss.mergeSort fun x y => decide (x ≤ y)) := by
      unfold SRow
      rw [hlen]
      exact h1
    have hg := below_grows (putRow encStr (Sort.ahead w n) g 0 (ss.mergeSort fun x y => decide (x ≤ y)).toArray) os
    have hp : Below B w (putRow encStr (Sort.ahead w n) g 0 (ss.mergeSort fun x y => decide (x ≤ y)).toArray) := below_putRow (Below.refl _ _) hBg
    exact ⟨rfl, h2.below hg, hp.trans (hg.mono (Nat.le_trans hB hp.size))⟩
theorem srow_compact (B : Nat) (v : Value) (ss : List (List UInt8)) (hl : ss.length ≤ 100000) (w : World) (h : SRow w B v ss) (hB : B ≤ w.heap.size) :
    Calls Tryd.prog 121 #[v] w fun e w' => ∃ v', e = .returned v' ∧ SRow w' B v' (compact ss) ∧ Below B w w' := by
  by_cases hv : v = .slice none 0 0
  · subst hv
    have e0 : ss = [] := by
      rcases h.2 with ⟨_, hz⟩ | ⟨g, cap, cur, e, _⟩
      · exact List.eq_nil_of_length_eq_zero hz
      · cases e
    subst e0
    refine (Tryd.slices_Compact_string_empty none 0 w).mono ?_
    rintro e w' ⟨rfl, rfl⟩
    exact ⟨_, rfl, h, Below.refl _ _⟩
  · obtain ⟨g, cap, rfl, hBg, hgw, hc1, hc2, hl', hH⟩ := holds_of_ownsRow h hv
    refine (Tryd.slices_Compact_string g 0 cap ss w hH (by omega) hc1).mono ?_
    rintro e w' ⟨rfl, q, rfl⟩
    have hle : (compact ss).length ≤ ss.length := by
      unfold compact compactUpTo
      rw [List.length_map]
      exact Nat.le_trans (List.length_filter_le _ _) (by rw [List.length_range]; exact Nat.le_refl _)
    have hlen : (compact ss ++ List.replicate (ss.length - (compact ss).length) []).length = ss.length := by
      rw [List.length_append, List.length_replicate]; omega
    have h1 := ownsRow_putRow (q := q) (k := (compact ss).length) h hlen hle
    rw [List.take_left] at h1
    exact ⟨_, rfl, h1, below_putRow (Below.refl _ _) hBg⟩

/-- The rows of cells. -/
def rowsL (l : List CT) : List (List UInt8) := compact ((l.map fun c => c.r.data.toList).mergeSort fun x y => decide (x ≤ y))

set_option maxHeartbeats 4000000 in
set_option maxRecDepth 100000 in
theorem crows_any (v : Value) (l : List CT) (hl : l.length ≤ 100000) (w : World) (h : ClA w v l) :
    Calls Tryd.prog 71 #[v] w fun e w' => ∃ v', e = .returned v' ∧ SRow w' w.heap.size v' (rowsL l) ∧ Below w.heap.size w w' := by
  obtain ⟨A, cc, rfl, hc1, hc2, hh⟩ := h
  obtain ⟨n, hn⟩ : ∃ n, l.length = n := ⟨_, rfl⟩
  have HN := hid hn
  rw [hn] at hl hc1 hh ⊢
  have HH := hid hh
  have HS := hid srow_sort
  have HC := hid srow_compact
  have HN0 := hid (SRow.none w w.heap.size)
  clear hn hh
  go_enter Tryd.func71, Tryd.ntmps71
  go_wp2
  go_loopw [3, 8] (fun vo vi wr => ∃ i : Nat, i ≤ n ∧ vi = .int .i64 i ∧ Hid (SRow wr w.heap.size vo ((l.take i).map fun c => c.r.data.toList)) ∧ Hid (Below w.heap.size w wr)) (fun _ vi _ => n - (intOf vi).toNat)
  case atStart => exact ⟨0, Nat.zero_le _, rfl, HN0.out, Below.refl _ _⟩
  case round =>
    obtain ⟨i, hi, rfl, HO, HB⟩ := hrel
    by_cases hlt : i < n
    · have hin : i < l.length := by rw [HN.out]; exact hlt
      have hltz : (i : Int) < (n : Int) := by omega
      obtain ⟨b, off, rfl, hhc⟩ := HH.out (by omega)
      have hbw : b < w.heap.size := hhc.lt (by omega)
      obtain ⟨c, hc⟩ : ∃ c, l[i] = c := ⟨_, rfl⟩
      have P : wr.cell? ⟨b, off + i * 8, none⟩ = some (.string c.r) ∧ wr.cell? ⟨b, off + i * 8 + 1, none⟩ = some (.string c.f) ∧ wr.cell? ⟨b, off + i * 8 + 2, none⟩ = some (.string c.q) ∧ wr.cell? ⟨b, off + i * 8 + 3, none⟩ = some (.int .i64 c.t) ∧ wr.cell? ⟨b, off + i * 8 + 4, none⟩ = some (.int .i64 c.k) ∧ wr.cell? ⟨b, off + i * 8 + 5, none⟩ = some (.int .i64 c.vk) ∧ wr.cell? ⟨b, off + i * 8 + 6, none⟩ = some (.int .i64 c.vn) ∧ wr.cell? ⟨b, off + i * 8 + 7, none⟩ = some (.string c.s) := by
        rw [← hc]
        exact (hhc.below HB.out hbw).words i hin
      have HT : Hid ((l.take (i + 1)).map (fun c => c.r.data.toList) = (l.take i).map (fun c => c.r.data.toList) ++ [c.r.data.toList]) := by
        unfold Hid
        rw [List.take_add_one, List.getElem?_eq_getElem hin, hc, List.map_append]
        rfl
      have HLn : Hid (((l.take i).map fun c => c.r.data.toList).length ≤ 100000) := by
        unfold Hid
        rw [List.length_map, List.length_take]; omega
      obtain ⟨p0, p1, p2, p3, p4, p5, p6, p7⟩ := P
      clear hc hhc
      go_upto_region 5 with (fail)
      obtain ⟨bb, hbb⟩ : ∃ bb, wr.heap.size = bb := ⟨_, rfl⟩
      refine wp_ltc (fun W => Hid (Below wr.heap.size wr W) ∧ W.cell? ⟨bb, 0, none⟩ = some (.string c.r) ∧ W.cell? ⟨bb, 1, none⟩ = some (.string c.f) ∧ W.cell? ⟨bb, 2, none⟩ = some (.string c.q) ∧ W.cell? ⟨bb, 3, none⟩ = some (.int .i64 c.t) ∧ W.cell? ⟨bb, 4, none⟩ = some (.int .i64 c.k) ∧ W.cell? ⟨bb, 5, none⟩ = some (.int .i64 c.vk) ∧ W.cell? ⟨bb, 6, none⟩ = some (.int .i64 c.vn) ∧ W.cell? ⟨bb, 7, none⟩ = some (.string c.s)) (by rw [← hbb]; have hB := Blk.new wr 28 c.e.toArray; exact ⟨below_new _ _, blk_words hB⟩) (fun W hW => ?_)
      rw [hbb]
      obtain ⟨HW, b0, b1, b2, b3, b4, b5, b6, b7⟩ := hW
      have HB2 : Hid (Below w.heap.size w W) := HB.out.trans (HW.out.mono HB.out.size)
      have HO2 : Hid (SRow W w.heap.size _ ((l.take i).map fun c => c.r.data.toList)) := HO.out.below HW.out
      clear p0 p1 p2 p3 p4 p5 p6 p7 hbb HO HB
      go_wp2_with (at_builtin; refine wpList_append_text rfl (.tmp 12) (.tmp 15) rfl _ w.heap.size _ _ rfl (HO2.out.below (below_new _ _)) _ 1 rfl c.r (Blk.cell (T := 9) (Blk.new _ _ _) 0) HLn.out (by have := HB2.out.size; simp; omega) ?_; intro v6 w6 h6 hb6)
      go_roundw
      case rel => exact ⟨i + 1, by omega, by go_num, by rw [HT.out]; exact h6, (HB2.out.alloc HB2.out.size _).trans hb6⟩
      case measure => simp [intOf]; omega
    · obtain rfl : i = n := by omega
      have hO2 := HO.out
      rw [List.take_of_length_le (by rw [HN.out]; exact Nat.le_refl _)] at hO2
      have HO2 := hid hO2
      clear hO2
      have HLn : Hid ((l.map fun c => c.r.data.toList).length ≤ 100000) := by
        have := HN.out
        unfold Hid
        rw [List.length_map]; omega
      go_wp2_with (first
        | (go_at_call 120; refine (HS.out w.heap.size _ _ HLn.out wr HO2.out HB.out.size).mono ?_; rintro e w5 ⟨rfl, hS5, hb5⟩; have hl5 : ((l.map fun c => c.r.data.toList).mergeSort fun x y => decide (x ≤ y)).length ≤ 100000 := (by rw [List.length_mergeSort]; exact HLn.out))
        | (go_at_call 121; refine (HC.out w.heap.size _ _ hl5 w5 hS5 (Nat.le_trans HB.out.size hb5.size)).mono ?_; rintro e w6 ⟨v6, rfl, hS6, hb6⟩))
      go_ret
      exact ⟨_, rfl, hS6, (HB.out.trans hb5).trans hb6⟩
end Go.Proofs.YtdjaofbjmnmlbaaDoor

/- The statements' own helpers at cells: put, long. Conditions: as each names them. -/
namespace Go.Proofs.YtdjaofbjmnmlbaaDoor
open Go.RowKit

/-- Is a cell greater than is looked at? -/
def longC1 (c : CT) : Bool := decide (60 < c.r.size) || (decide (60 < c.f.size) || (decide (60 < c.q.size) || decide (100 < c.s.size)))
def longC (l : List CT) : Bool := decide (60 < l.length) || l.any longC1

def putC (n : Int) : CT := ⟨⟨#[114]⟩, ⟨#[102]⟩, ⟨#[113]⟩, n, 1, 1, n, ⟨#[]⟩⟩
set_option maxHeartbeats 1000000 in
theorem putc_any (n : Int) (w : World) : Calls Tryd.prog 69 #[.int .i64 n] w fun e w' => e = .returned (putC n).v ∧ Below w.heap.size w w' := by
  go_enter Tryd.func69, Tryd.ntmps69
  go_wp2
  refine bodyPost_ret (v := (putC n).v) (by simp [results, Tryd.results69, go_sem, putC, CT.v, cellV]) rfl ?_
  exact ⟨rfl, below_new _ _⟩

set_option maxHeartbeats 4000000 in
set_option maxRecDepth 100000 in
theorem longcells_any (v : Value) (l : List CT) (w : World) (h : ClA w v l) :
    Calls Tryd.prog 33 #[v, .int .i64 60] w fun e w' => e = .returned (.bool (longC l)) ∧ Below w.heap.size w w' := by
  have mixed : Tryd.prog.follows .mixedOrders = true := by kernel_rfl
  obtain ⟨A, cc, rfl, hc1, hc2, hh⟩ := h
  unfold longC
  obtain ⟨n, hn⟩ : ∃ n, l.length = n := ⟨_, rfl⟩
  have HN := hid hn
  rw [hn] at hc1 hh ⊢
  have HH := hid hh
  clear hn hh
  by_cases hl : 60 < n
  · have hlz : (60 : Int) < (n : Int) := by omega
    rw [decide_eq_true hl]
    go_enter Tryd.func33, Tryd.ntmps33
    go_wp2
    go_ret
    exact ⟨rfl, Below.refl _ _⟩
  · have hlz : ¬ (60 : Int) < (n : Int) := by omega
    rw [decide_eq_false hl]
    go_enter Tryd.func33, Tryd.ntmps33
    go_wp2
    go_loopw [5] (fun vi wr => wr = w ∧ ∃ i : Nat, i ≤ n ∧ vi = .int .i64 i ∧ Hid (l.any longC1 = (l.drop i).any longC1)) (fun vi _ => n - (intOf vi).toNat)
    case atStart => exact ⟨rfl, 0, Nat.zero_le _, rfl, rfl⟩
    case round =>
      obtain ⟨rfl, i, hi, rfl, HA⟩ := hrel
      by_cases hlt : i < n
      · have hin : i < l.length := by rw [HN.out]; exact hlt
        have hltz : (i : Int) < (n : Int) := by omega
        have hltd : decide ((i : Int) < (n : Int)) = true := decide_eq_true hltz
        obtain ⟨b, off, rfl, hhc⟩ := HH.out (by omega)
        obtain ⟨c, hc⟩ : ∃ c, l[i] = c := ⟨_, rfl⟩
        have P : wr.cell? ⟨b, off + i * 8, none⟩ = some (.string c.r) ∧ wr.cell? ⟨b, off + i * 8 + 1, none⟩ = some (.string c.f) ∧ wr.cell? ⟨b, off + i * 8 + 2, none⟩ = some (.string c.q) ∧ wr.cell? ⟨b, off + i * 8 + 3, none⟩ = some (.int .i64 c.t) ∧ wr.cell? ⟨b, off + i * 8 + 4, none⟩ = some (.int .i64 c.k) ∧ wr.cell? ⟨b, off + i * 8 + 5, none⟩ = some (.int .i64 c.vk) ∧ wr.cell? ⟨b, off + i * 8 + 6, none⟩ = some (.int .i64 c.vn) ∧ wr.cell? ⟨b, off + i * 8 + 7, none⟩ = some (.string c.s) := by
          rw [← hc]
          exact hhc.words i hin
        have HD : Hid (l.any longC1 = (longC1 c || (l.drop (i + 1)).any longC1)) := by
          unfold Hid
          rw [HA.out, List.drop_eq_getElem_cons hin, hc]
          rfl
        obtain ⟨p0, p1, p2, p3, p4, p5, p6, p7⟩ := P
        clear hc hhc HA
        by_cases h1 : 60 < c.r.size
        · have h1z : (60 : Int) < (c.r.size : Int) := by omega
          have HE : Hid (l.any longC1 = true) := by unfold Hid; rw [HD.out]; simp [longC1, h1]
          clear h1
          go_wp2
          go_ret
          exact ⟨by rw [HE.out]; rfl, Below.refl _ _⟩
        have h1z : ¬ (60 : Int) < (c.r.size : Int) := by omega
        by_cases h2 : 60 < c.f.size
        · have h2z : (60 : Int) < (c.f.size : Int) := by omega
          have HE : Hid (l.any longC1 = true) := by unfold Hid; rw [HD.out]; simp [longC1, h2]
          clear h1 h2
          go_wp2
          go_ret
          exact ⟨by rw [HE.out]; rfl, Below.refl _ _⟩
        have h2z : ¬ (60 : Int) < (c.f.size : Int) := by omega
        by_cases h3 : 60 < c.q.size
        · have h3z : (60 : Int) < (c.q.size : Int) := by omega
          have HE : Hid (l.any longC1 = true) := by unfold Hid; rw [HD.out]; simp [longC1, h3]
          clear h1 h2 h3
          go_wp2
          go_ret
          exact ⟨by rw [HE.out]; rfl, Below.refl _ _⟩
        have h3z : ¬ (60 : Int) < (c.q.size : Int) := by omega
        by_cases h4 : 100 < c.s.size
        · have h4z : (100 : Int) < (c.s.size : Int) := by omega
          have HE : Hid (l.any longC1 = true) := by unfold Hid; rw [HD.out]; simp [longC1, h4]
          clear h1 h2 h3 h4
          go_wp2
          go_ret
          exact ⟨by rw [HE.out]; rfl, Below.refl _ _⟩
        have h4z : ¬ (100 : Int) < (c.s.size : Int) := by omega
        have HE : Hid (l.any longC1 = (l.drop (i + 1)).any longC1) := by
          unfold Hid
          rw [HD.out]
          simp [longC1, h1, h2, h3, h4]
        clear h1 h2 h3 h4
        go_wp2
        go_roundw
        case rel => exact ⟨trivial, i + 1, by omega, by go_num, HE.out⟩
        case measure => simp [intOf]; omega
      · obtain rfl : i = n := by omega
        have HE : Hid (l.any longC1 = false) := by
          unfold Hid
          rw [HA.out, List.drop_of_length_le (by rw [HN.out]; exact Nat.le_refl _)]
          rfl
        go_wp2
        go_ret
        exact ⟨by rw [HE.out]; rfl, Below.refl _ _⟩
end Go.Proofs.YtdjaofbjmnmlbaaDoor

/- Cells sorted: one list alone is it; it rises; the statements' fixed cells, sorted. -/
namespace Go.Proofs.YtdjaofbjmnmlbaaDoor
open Go.RowKit

theorem stbl_uniq {l : List CT} {l1 l2 : List TT} (h1 : StbL l l1) (h2 : StbL l l2) : l1 = l2 := by
  have hs : Sort.SWO (ltOf tcF) := c3_swo tc3
  refine List.Perm.eq_of_pairwise (le := RT (ltOf tcF) Prod.snd) (fun a b _ _ hab hba => ?_) h1.sorted h2.sorted (h1.perm.trans h2.perm.symm)
  exfalso
  rcases hab with hab | ⟨hab, ht⟩
  · rcases hba with hba | ⟨hba, _⟩
    · rw [swo_asym hs hab] at hba; cases hba
    · rw [hab] at hba; cases hba
  · rcases hba with hba | ⟨_, ht2⟩
    · rw [hab] at hba; cases hba
    · omega
theorem SortOf.uniq {l s t : List CT} (h1 : SortOf l s) (h2 : SortOf l t) : s = t := by
  obtain ⟨l1, a1, rfl⟩ := h1
  obtain ⟨l2, a2, rfl⟩ := h2
  rw [stbl_uniq a1 a2]

theorem lasts_mem : ∀ (l : List CT) (x : CT), x ∈ lastsM l → x ∈ l
  | [], _, h => h
  | [a], _, h => h
  | a :: b :: t, x, h => by
    have ih := lasts_mem (b :: t) x
    have h : x ∈ (if CT.cmp a b = 0 then lastsM (b :: t) else a :: lastsM (b :: t)) := h
    split at h
    · exact List.mem_cons_of_mem _ (ih h)
    · rcases List.mem_cons.1 h with rfl | h
      · exact List.mem_cons_self
      · exact List.mem_cons_of_mem _ (ih h)
theorem lasts_rise : ∀ l : List CT, l.Pairwise (fun x y => CT.cmp x y ≤ 0) → (lastsM l).Pairwise (fun x y => CT.cmp x y < 0)
  | [], _ => List.Pairwise.nil
  | [a], _ => List.pairwise_singleton _ _
  | a :: b :: t, h => by
    obtain ⟨h1, h2⟩ := List.pairwise_cons.1 h
    have ih := lasts_rise (b :: t) h2
    show (if CT.cmp a b = 0 then lastsM (b :: t) else a :: lastsM (b :: t)).Pairwise _
    split
    · exact ih
    · rename_i hne
      refine List.pairwise_cons.2 ⟨fun z hz => ?_, ih⟩
      have hab : CT.cmp a b < 0 := by have := h1 b List.mem_cons_self; omega
      have hz := lasts_mem _ _ hz
      rcases List.mem_cons.1 hz with rfl | hz
      · exact hab
      · exact ct_c3.lt_le hab ((List.pairwise_cons.1 h2).1 z hz)
theorem StbL.le {l : List CT} {l' : List TT} (h : StbL l l') : (l'.map Prod.fst).Pairwise (fun x y => CT.cmp x y ≤ 0) := by
  rw [List.pairwise_map]
  refine h.sorted.imp fun {a b} hab => ?_
  have hs : Sort.SWO (ltOf tcF) := c3_swo tc3
  have h0 := RT.le hs hab
  have h2 : ¬ tcF b a < 0 := by
    intro q
    have h1 : ltOf tcF b a = true := by simpa [ltOf] using q
    rw [h0] at h1
    cases h1
  have h3 := ct_c3.anti b.1 a.1
  have h4 : tcF b a = CT.cmp b.1 a.1 := rfl
  omega
/-- Sorted cells rise. -/
theorem SortOf.rise {l s : List CT} (h : SortOf l s) : s.Pairwise (fun x y => CT.cmp x y < 0) := by
  obtain ⟨l', h1, rfl⟩ := h
  exact lasts_rise _ h1.le
theorem SortOf.mem {l s : List CT} (h : SortOf l s) {c : CT} (hc : c ∈ s) : c ∈ l ∧ c.ok = true := by
  obtain ⟨l', h1, rfl⟩ := h
  have h2 := lasts_mem _ _ hc
  obtain ⟨p, hp, rfl⟩ := List.mem_map.1 h2
  have h3 := h1.perm.mem_iff.1 hp
  obtain ⟨x, i⟩ := p
  exact List.mem_filter.1 (List.fst_mem_of_mem_zipIdx h3)

def goneC : CT := ⟨⟨#[114]⟩, ⟨#[102]⟩, ⟨#[113]⟩, 3, 3, 0, 0, ⟨#[]⟩⟩
def fixedC : List CT := [putC 3, putC 4, goneC, putC 5]
def fixedT : List TT := [(putC 5, 3), (putC 4, 1), (goneC, 2), (putC 3, 0)]
theorem fixed_ok : fixedC.filter CT.ok = fixedC := by
  have h3 : (putC 3).ok = true := by kernel_rfl
  have h4 : (putC 4).ok = true := by kernel_rfl
  have h5 : (putC 5).ok = true := by kernel_rfl
  have hg : goneC.ok = true := by kernel_rfl
  simp [fixedC, h3, h4, h5, hg]
theorem fixed_stb : StbL (fixedC.filter CT.ok) fixedT := by
  rw [fixed_ok]
  constructor
  · show fixedT.Perm [(putC 3, 0), (putC 4, 1), (goneC, 2), (putC 5, 3)]
    exact ((List.reverse_perm [(putC 3, 0), (putC 4, 1), (goneC, 2), (putC 5, 3)]).symm.trans (List.Perm.cons _ (List.Perm.swap _ _ _))).symm
  · have a1 : ltOf tcF (putC 5, 3) (putC 4, 1) = true := by kernel_rfl
    have a2 : ltOf tcF (putC 5, 3) (goneC, 2) = true := by kernel_rfl
    have a3 : ltOf tcF (putC 5, 3) (putC 3, 0) = true := by kernel_rfl
    have a4 : ltOf tcF (putC 4, 1) (goneC, 2) = true := by kernel_rfl
    have a5 : ltOf tcF (putC 4, 1) (putC 3, 0) = true := by kernel_rfl
    have a6 : ltOf tcF (goneC, 2) (putC 3, 0) = true := by kernel_rfl
    simp [fixedT, RT, a1, a2, a3, a4, a5, a6]
theorem fixed_sort {s : List CT} (h : SortOf fixedC s) : s = [putC 5, putC 4, goneC, putC 3] := by
  rw [h.uniq ⟨fixedT, fixed_stb, rfl⟩]
  have a1 : CT.cmp (putC 5) (putC 4) = -1 := by kernel_rfl
  have a2 : CT.cmp (putC 4) goneC = -1 := by kernel_rfl
  have a3 : CT.cmp goneC (putC 3) = -1 := by kernel_rfl
  simp [fixedT, lastsM, a1, a2, a3]
def fixedS : List CT := [putC 5, putC 4, goneC, putC 3]
theorem fixed_seen1 : seenL 1 0 9 fixedS = [putC 5] := by kernel_rfl
theorem fixed_seen8 : (seenL 8 0 9 fixedS).length = 2 := by kernel_rfl
theorem fixed_seen3 : (seenL 8 3 8 fixedS).length = 0 := by kernel_rfl
theorem fixed_value : valueM ⟨#[102]⟩ ⟨#[113]⟩ fixedS (seenL 1 0 9 fixedS) = some (putC 5) := by kernel_rfl
theorem fixed_rows : (rowsL fixedC).length = 1 := by
  have e : (fixedC.map fun c => c.r.data.toList) = [[114], [114], [114], [114]] := by kernel_rfl
  unfold rowsL
  rw [e]
  have m : ([[114], [114], [114], [114]] : List (List UInt8)).mergeSort (fun x y => decide (x ≤ y)) = [[114], [114], [114], [114]] := by
    refine List.mergeSort_of_pairwise ?_
    decide
  rw [m]
  decide
end Go.Proofs.YtdjaofbjmnmlbaaDoor

/- What sorted cells are: they rise, and hold just the right cells behind which no right cell of their place stands. -/
namespace Go.Proofs.YtdjaofbjmnmlbaaDoor
open Go.RowKit

/-- c stands in f, and none of its place behind it. -/
def LastIn (f : List CT) (c : CT) : Prop := ∃ a b, f = a ++ c :: b ∧ ∀ d ∈ b, CT.cmp c d ≠ 0

theorem lasts_iff : ∀ (m : List CT), m.Pairwise (fun x y => CT.cmp x y ≤ 0) → ∀ c, c ∈ lastsM m ↔ LastIn m c
  | [], _, c => ⟨(fun h => by cases h), (fun ⟨a, b, h, _⟩ => by cases a <;> cases h)⟩
  | [x], _, c => by
    constructor
    · intro h
      rcases List.mem_singleton.1 h with rfl
      exact ⟨[], [], rfl, fun d hd => by cases hd⟩
    · rintro ⟨a, b, h, _⟩
      cases a with
      | nil => cases h; exact List.mem_singleton.2 rfl
      | cons y a => injection h with h1 h2; cases a <;> cases h2
  | x :: y :: t, hp, c => by
    obtain ⟨hx, hp'⟩ := List.pairwise_cons.1 hp
    obtain ⟨hy, _⟩ := List.pairwise_cons.1 hp'
    have ih := lasts_iff (y :: t) hp' c
    show c ∈ (if CT.cmp x y = 0 then lastsM (y :: t) else x :: lastsM (y :: t)) ↔ _
    have push : LastIn (y :: t) c → LastIn (x :: y :: t) c := fun ⟨a, b, h, hb⟩ => ⟨x :: a, b, by rw [h]; rfl, hb⟩
    have pull : LastIn (x :: y :: t) c → LastIn (y :: t) c ∨ (c = x ∧ ∀ d ∈ y :: t, CT.cmp c d ≠ 0) := fun ⟨a, b, h, hb⟩ => by
      cases a with
      | nil => injection h with h1 h2; subst h1; rw [h2]; exact .inr ⟨rfl, hb⟩
      | cons z a => injection h with h1 h2; exact .inl ⟨a, b, h2, hb⟩
    by_cases e : CT.cmp x y = 0
    · rw [if_pos e, ih]
      refine ⟨push, fun h => ?_⟩
      rcases pull h with h | ⟨rfl, h2⟩
      · exact h
      · exact absurd e (h2 y List.mem_cons_self)
    · rw [if_neg e, List.mem_cons, ih]
      constructor
      · rintro (rfl | h)
        · refine ⟨[], y :: t, rfl, fun d hd => ?_⟩
          have hxy : CT.cmp c y < 0 := by have := hx y List.mem_cons_self; omega
          rcases List.mem_cons.1 hd with rfl | hd
          · exact e
          · have := ct_c3.lt_le hxy (hy d hd); omega
        · exact push h
      · intro h
        rcases pull h with h | ⟨rfl, _⟩
        · exact .inr h
        · exact .inl rfl
theorem last_zip {f : List CT} {c : CT} : LastIn f c ↔ ∃ t, (c, t) ∈ f.zipIdx ∧ ∀ d u, (d, u) ∈ f.zipIdx → t < u → CT.cmp c d ≠ 0 := by
  constructor
  · rintro ⟨a, b, rfl, hb⟩
    refine ⟨a.length, ?_, fun d u hd hu => ?_⟩
    · rw [List.mk_mem_zipIdx_iff_getElem?]; simp
    · rw [List.mk_mem_zipIdx_iff_getElem?, List.getElem?_append_right (by omega)] at hd
      obtain ⟨k, hk⟩ : ∃ k, u - a.length = k + 1 := ⟨u - a.length - 1, by omega⟩
      rw [hk, List.getElem?_cons_succ] at hd
      exact hb d (List.mem_of_getElem? hd)
  · rintro ⟨t, ht, h⟩
    rw [List.mk_mem_zipIdx_iff_getElem?] at ht
    obtain ⟨hlt, hc⟩ := List.getElem?_eq_some_iff.1 ht
    refine ⟨f.take t, f.drop (t + 1), ?_, fun d hd => ?_⟩
    · rw [← hc, ← List.drop_eq_getElem_cons hlt, List.take_append_drop]
    · obtain ⟨k, hk, rfl⟩ := List.getElem_of_mem hd
      rw [List.getElem_drop]
      refine h _ (t + 1 + k) ?_ (by omega)
      rw [List.mk_mem_zipIdx_iff_getElem?]
      exact List.getElem?_eq_getElem _
theorem stb_last {f : List CT} {l' : List TT} (h : StbL f l') (c : CT) : LastIn (l'.map Prod.fst) c ↔ LastIn f c := by
  have hs : Sort.SWO (ltOf tcF) := c3_swo tc3
  have c0 : ∀ x y : TT, CT.cmp x.1 y.1 = 0 → ltOf tcF x y = false ∧ ltOf tcF y x = false := fun x y e => by
    have a := ct_c3.anti x.1 y.1
    constructor
    · show decide (CT.cmp x.1 y.1 < 0) = false
      exact decide_eq_false (by omega)
    · show decide (CT.cmp y.1 x.1 < 0) = false
      exact decide_eq_false (by omega)
  rw [last_zip (f := f)]
  constructor
  · rintro ⟨a, b, hm, hb⟩
    obtain ⟨a', b', rfl, rfl, hcb⟩ := List.map_eq_append_iff.1 hm
    obtain ⟨x, b'', rfl, rfl, rfl⟩ := List.map_eq_cons_iff.1 hcb
    refine ⟨x.2, h.perm.mem_iff.1 (by simp), fun d u hd hu e => ?_⟩
    have hd := h.perm.mem_iff.2 hd
    obtain ⟨p1, p2, p3⟩ := List.pairwise_append.1 h.sorted
    rcases List.mem_append.1 hd with hd | hd
    · have := p3 _ hd x List.mem_cons_self
      obtain ⟨q1, q2⟩ := c0 x (d, u) e
      rcases this with q | ⟨_, q⟩
      · rw [q] at q2; cases q2
      · have q : u < x.2 := q; omega
    · rcases List.mem_cons.1 hd with rfl | hd
      · exact absurd hu (Nat.lt_irrefl _)
      · exact hb d (List.mem_map.2 ⟨(d, u), hd, rfl⟩) e
  · rintro ⟨t, ht, hl⟩
    have ht := h.perm.mem_iff.2 ht
    obtain ⟨a, b, rfl⟩ := List.append_of_mem ht
    refine ⟨a.map Prod.fst, b.map Prod.fst, by simp, fun d hd e => ?_⟩
    obtain ⟨y, hy, rfl⟩ := List.mem_map.1 hd
    obtain ⟨_, p2, _⟩ := List.pairwise_append.1 h.sorted
    have hq := (List.pairwise_cons.1 p2).1 y hy
    obtain ⟨q1, q2⟩ := c0 (c, t) y e
    rcases hq with q | ⟨_, q⟩
    · rw [q] at q1; cases q1
    · exact hl y.1 y.2 (h.perm.mem_iff.1 (by simp [hy])) q e
/-- What sorted cells hold. -/
theorem SortOf.holds {l s : List CT} (h : SortOf l s) (c : CT) : c ∈ s ↔ LastIn (l.filter CT.ok) c := by
  obtain ⟨l', h1, rfl⟩ := h
  rw [lasts_iff _ h1.le, stb_last h1]
/-- Two lists that rise and hold the same are one. -/
theorem rise_uniq {s t : List CT} (h1 : s.Pairwise (fun x y => CT.cmp x y < 0)) (h2 : t.Pairwise (fun x y => CT.cmp x y < 0)) (h : ∀ c, c ∈ s ↔ c ∈ t) : s = t := by
  have nd : ∀ {m : List CT}, m.Pairwise (fun x y => CT.cmp x y < 0) → m.Nodup := fun hm => hm.imp fun {a b} hab e => by
    subst e
    have := ct_c3.zero a
    omega
  refine List.Perm.eq_of_pairwise (le := fun x y => CT.cmp x y < 0) (fun a b _ _ hab hba => ?_) h1 h2 ((List.perm_ext_iff_of_nodup (nd h1) (nd h2)).2 h)
  have := ct_c3.anti a b
  omega
end Go.Proofs.YtdjaofbjmnmlbaaDoor

/- Sorted cells of a part of the places. -/
namespace Go.Proofs.YtdjaofbjmnmlbaaDoor
open Go.RowKit

theorem last_filter {f : List CT} {P : CT → Bool} (hP : ∀ x y, CT.cmp x y = 0 → P x = P y) (c : CT) : LastIn (f.filter P) c ↔ LastIn f c ∧ P c = true := by
  constructor
  · rintro ⟨a, b, h, hb⟩
    obtain ⟨l1, l2, rfl, h1, h2⟩ := List.filter_eq_append_iff.1 h
    obtain ⟨m1, m2, rfl, hm, hc, h3⟩ := List.filter_eq_cons_iff.1 h2
    refine ⟨⟨l1 ++ m1, m2, by simp, fun d hd e => ?_⟩, hc⟩
    refine hb d ?_ e
    rw [← h3]
    exact List.mem_filter.2 ⟨hd, by rw [← hP c d e]; exact hc⟩
  · rintro ⟨⟨a, b, rfl, hb⟩, hc⟩
    refine ⟨a.filter P, b.filter P, by rw [List.filter_append, List.filter_cons, if_pos hc], fun d hd => hb d (List.mem_filter.1 hd).1⟩
/-- Sorting the cells of a part of the places is taking that part of the sorted ones. -/
theorem SortOf.part {l s t : List CT} {P : CT → Bool} (hP : ∀ x y, CT.cmp x y = 0 → P x = P y) (h : SortOf l s) (h2 : SortOf (l.filter P) t) : t = s.filter P := by
  refine rise_uniq h2.rise (h.rise.filter _) fun c => ?_
  rw [h2.holds, List.mem_filter, h.holds, ← last_filter hP]
  rw [show (l.filter P).filter CT.ok = (l.filter CT.ok).filter P by rw [List.filter_filter, List.filter_filter]; congr 1; funext x; exact Bool.and_comm _ _]
/-- Sorting a list that holds the same right cells, no two of one place, gives the same. -/
theorem SortOf.apart {l m s t : List CT} (h : SortOf l s) (h2 : SortOf m t) (hm : m.Perm s) (hr : ∀ c ∈ s, c.ok = true) : t = s := by
  refine rise_uniq h2.rise h.rise fun c => ?_
  have hok : m.filter CT.ok = m := List.filter_eq_self.2 fun x hx => hr x (hm.mem_iff.1 hx)
  rw [h2.holds, hok]
  have nd : ∀ a b : CT, a ∈ s → b ∈ s → CT.cmp a b = 0 → a = b := fun a b ha hb e => by
    obtain ⟨p, q, rfl⟩ := List.append_of_mem ha
    obtain ⟨r1, r2, r3⟩ := List.pairwise_append.1 h.rise
    rcases List.mem_append.1 hb with hb | hb
    · have := r3 b hb a List.mem_cons_self
      have := ct_c3.anti a b
      omega
    · rcases List.mem_cons.1 hb with rfl | hb
      · rfl
      · have := (List.pairwise_cons.1 r2).1 b hb
        omega
  have ndm : m.Nodup := hm.nodup_iff.2 (h.rise.imp fun {a b} hab e => by
    subst e
    have := ct_c3.zero a
    omega)
  constructor
  · rintro ⟨a, b, rfl, _⟩
    exact hm.mem_iff.1 (by simp)
  · intro hc
    obtain ⟨a, b, rfl⟩ := List.append_of_mem (hm.mem_iff.2 hc)
    refine ⟨a, b, rfl, fun d hd e => ?_⟩
    have hd2 : d ∈ s := hm.mem_iff.1 (by simp [hd])
    have := nd c d hc hd2 e
    subst this
    have h3 := (List.nodup_append.1 ndm).2.1
    exact (List.nodup_cons.1 h3).1 hd
end Go.Proofs.YtdjaofbjmnmlbaaDoor

/- What is let of sorted cells: of each column no more than so many, the latest first. -/
namespace Go.Proofs.YtdjaofbjmnmlbaaDoor
open Go.RowKit

theorem cmp_lex (x y : CT) : CT.cmp x y = (if Lib.compareBytes x.r.data.toList y.r.data.toList = 0 then (if Lib.compareBytes x.f.data.toList y.f.data.toList = 0 then (if Lib.compareInt (rankC x.k) (rankC y.k) = 0 then (if Lib.compareBytes x.q.data.toList y.q.data.toList = 0 then (if Lib.compareInt (-x.t) (-y.t) = 0 then (if Lib.compareInt (-x.k) (-y.k) = 0 then 0 else Lib.compareInt (-x.k) (-y.k)) else Lib.compareInt (-x.t) (-y.t)) else Lib.compareBytes x.q.data.toList y.q.data.toList) else Lib.compareInt (rankC x.k) (rankC y.k)) else Lib.compareBytes x.f.data.toList y.f.data.toList) else Lib.compareBytes x.r.data.toList y.r.data.toList) := by
  have n1 : ∀ a b : Int, Lib.compareInt b a = Lib.compareInt (-a) (-b) := fun a b => by unfold Lib.compareInt; split <;> (try split) <;> (try split) <;> (try split) <;> omega
  unfold CT.cmp cOrd
  simp only [orI_cons, n1 x.t y.t, n1 x.k y.k]
  rfl
theorem lex_le {f g : Int} (h : (if f = 0 then g else f) ≤ 0) : f ≤ 0 ∧ (f = 0 → g ≤ 0) := by
  split at h
  · exact ⟨by omega, fun _ => h⟩
  · exact ⟨h, fun e => by omega⟩
theorem ba_eq {x y : ByteArray} (h : x.data.toList = y.data.toList) : x = y := by
  apply ByteArray.ext
  exact Array.toList_inj.1 h
theorem ba_between {x y : ByteArray} (h1 : Lib.compareBytes x.data.toList y.data.toList ≤ 0) (h2 : Lib.compareBytes y.data.toList x.data.toList ≤ 0) : x = y := by
  have := cmpB_neg x.data.toList y.data.toList
  exact ba_eq (cmpB_zero _ _ (by omega))
theorem int_le {a b : Int} (h : Lib.compareInt a b ≤ 0) : a ≤ b := by
  unfold Lib.compareInt at h
  split at h
  · omega
  · split at h <;> omega
theorem int_self (a : Int) : Lib.compareInt a a = 0 := by
  unfold Lib.compareInt
  split
  · omega
  · rfl
theorem int_lt {a b : Int} (h : Lib.compareInt a b < 0) : a < b := by
  unfold Lib.compareInt at h
  split at h
  · assumption
  · split at h <;> omega

/-- Of one column. -/
abbrev colC (c d : CT) : Prop := c.r = d.r ∧ c.f = d.f ∧ c.q = d.q
/-- What stands between a column's put and another cell of the column is of the column. -/
theorem col_between {d a c : CT} (h : colC c d) (hk : d.k = 1) (h1 : CT.cmp d a ≤ 0) (h2 : CT.cmp a c ≤ 0) : colC c a ∧ c.k ≠ 4 := by
  obtain ⟨hr, hf, hq⟩ := h
  rw [cmp_lex] at h1 h2
  obtain ⟨r1, h1⟩ := lex_le h1
  obtain ⟨r2, h2⟩ := lex_le h2
  rw [hr] at r2
  have er : d.r = a.r := ba_between r1 r2
  have h1 := h1 (by rw [er]; exact cmpB_self _)
  have h2 := h2 (by rw [hr, er]; exact cmpB_self _)
  obtain ⟨f1, h1⟩ := lex_le h1
  obtain ⟨f2, h2⟩ := lex_le h2
  rw [hf] at f2
  have ef : d.f = a.f := ba_between f1 f2
  have h1 := h1 (by rw [ef]; exact cmpB_self _)
  have h2 := h2 (by rw [hf, ef]; exact cmpB_self _)
  obtain ⟨k1, h1⟩ := lex_le h1
  obtain ⟨k2, h2⟩ := lex_le h2
  have k1 := int_le k1
  have k2 := int_le k2
  have kd : rankC d.k = 1 := by rw [hk]; rfl
  have ka : rankC a.k ≤ 1 := by unfold rankC; split <;> omega
  have kc : rankC c.k ≤ 1 := by unfold rankC; split <;> omega
  have h1 := h1 (by rw [show rankC a.k = rankC d.k by omega]; exact int_self _)
  have h2 := h2 (by rw [show rankC c.k = rankC a.k by omega]; exact int_self _)
  obtain ⟨q1, _⟩ := lex_le h1
  obtain ⟨q2, _⟩ := lex_le h2
  rw [hq] at q2
  have eq : d.q = a.q := ba_between q1 q2
  refine ⟨⟨hr.trans er, hf.trans ef, hq.trans eq⟩, fun h4 => ?_⟩
  have : rankC c.k = 0 := by rw [h4]; rfl
  omega
theorem col_time {d c : CT} (h : colC c d) (hd : d.k = 1) (hc : c.k = 1) (h1 : CT.cmp d c < 0) : c.t < d.t := by
  obtain ⟨hr, hf, hq⟩ := h
  rw [cmp_lex, hr, hf, hq, hd, hc, if_pos (cmpB_self _), if_pos (cmpB_self _), if_pos (int_self _), if_pos (cmpB_self _)] at h1
  have := lex_le (Int.le_of_lt h1)
  by_cases e : Lib.compareInt (-d.t) (-c.t) = 0
  · rw [if_pos e, if_pos (int_self _)] at h1; omega
  · have := int_lt (a := -d.t) (b := -c.t) (by omega)
    omega

/-- The statement's walk: the last cell, how many of its column there are. -/
def fewM (ver : Int) : Option CT → Int → List CT → Bool
  | _, _, [] => true
  | p, n, c :: l =>
    if c.k ≠ 1 then false
    else match p with
      | some d => if colC c d then (if d.t ≤ c.t then false else if ver < IntKind.i64.wrap (n + 1) then false else fewM ver (some c) (IntKind.i64.wrap (n + 1)) l) else if ver < 1 then false else fewM ver (some c) 1 l
      | none => if ver < 1 then false else fewM ver (some c) 1 l

/-- How the sight stands to what has been let. -/
def FewI (g : SG) (p : Option CT) (n : Int) (m : List CT) : Prop :=
  0 ≤ g.seen ∧ g.seen ≤ 8 ∧ (p = none → g.seen = 0) ∧ ∀ d, p = some d → d.k = 1 ∧ CT.cmp d g.at' ≤ 0 ∧ (∀ c ∈ m, CT.cmp g.at' c < 0) ∧ (if colC g.at' d then g.seen = n else g.seen = 0)

theorem move_seen (g : SG) (c : CT) : (g.move c).at' = c ∧ (g.move c).seen = if colC c g.at' then g.seen else 0 := by
  unfold SG.move
  by_cases h1 : c.r ≠ g.at'.r ∨ c.f ≠ g.at'.f
  · rw [if_pos h1, if_neg (by rintro ⟨a, b, _⟩; rcases h1 with h | h <;> contradiction)]
    exact ⟨rfl, rfl⟩
  · rw [if_neg h1]
    by_cases h2 : c.q ≠ g.at'.q
    · rw [if_pos h2, if_neg (by rintro ⟨_, _, b⟩; contradiction)]
      exact ⟨rfl, rfl⟩
    · rw [if_neg h2, if_pos (by
        refine ⟨?_, ?_, ?_⟩
        · false_or_by_contra; rename_i q; exact h1 (.inl q)
        · false_or_by_contra; rename_i q; exact h1 (.inr q)
        · false_or_by_contra; rename_i q; exact h2 q)]
      exact ⟨rfl, rfl⟩
theorem lets_seen (g : SG) (c : CT) (ver life now : Int) : (g.lets c ver life now).1.at' = c ∧
    (((g.lets c ver life now).2 = true ∧ c.k = 1 ∧ (g.move c).seen < ver ∧ (g.lets c ver life now).1.seen = IntKind.i64.wrap ((g.move c).seen + 1)) ∨ ((g.lets c ver life now).2 = false ∧ (g.lets c ver life now).1.seen = (g.move c).seen)) := by
  have hm := (move_seen g c).1
  unfold SG.lets
  simp only
  split
  · exact ⟨hm, .inr ⟨rfl, rfl⟩⟩
  · split
    · exact ⟨hm, .inr ⟨rfl, rfl⟩⟩
    · split
      · exact ⟨hm, .inr ⟨rfl, rfl⟩⟩
      · split
        · rename_i h
          exact ⟨hm, .inl ⟨rfl, h.1, h.2.2.2, rfl⟩⟩
        · exact ⟨hm, .inr ⟨rfl, rfl⟩⟩

theorem few_go (ver life now : Int) (h8 : ver ≤ 8) : ∀ (m : List CT) (g : SG) (p : Option CT) (n : Int), m.Pairwise (fun x y => CT.cmp x y < 0) → FewI g p n m → fewM ver p n (seenF ver life now g m) = true
  | [], _, _, _, _, _ => rfl
  | c :: m, g, p, n, hp, hI => by
    obtain ⟨hc, hp'⟩ := List.pairwise_cons.1 hp
    obtain ⟨i0, i8, iN, iS⟩ := hI
    obtain ⟨ha, hs⟩ := lets_seen g c ver life now
    have hmv := (move_seen g c).2
    obtain ⟨G, hG⟩ : ∃ G, (g.lets c ver life now).1 = G := ⟨_, rfl⟩
    show fewM ver p n (if (g.lets c ver life now).2 = true then c :: seenF ver life now (g.lets c ver life now).1 m else seenF ver life now (g.lets c ver life now).1 m) = true
    rw [hG] at ha hs ⊢
    have m0 : 0 ≤ (g.move c).seen ∧ (g.move c).seen ≤ 8 := by rw [hmv]; split <;> omega
    rcases hs with ⟨h2, hk, hlt, hse⟩ | ⟨h2, hse⟩
    · rw [if_pos h2]
      have hw : IntKind.i64.wrap ((g.move c).seen + 1) = (g.move c).seen + 1 := by rw [IntKind.wrap_i64]; omega
      rw [hw] at hse
      have next : ∀ n', G.seen = n' → FewI G (some c) n' m := fun n' hn => by
        refine ⟨by omega, by omega, (fun h => by cases h), fun d hd => ?_⟩
        cases hd
        refine ⟨hk, by rw [ha, ct_c3.zero]; omega, fun x hx => by rw [ha]; exact hc x hx, ?_⟩
        rw [ha, if_pos ⟨rfl, rfl, rfl⟩]
        exact hn
      unfold fewM
      rw [if_neg (by omega)]
      cases p with
      | none =>
        have z := iN rfl
        have z2 : (g.move c).seen = 0 := by rw [hmv]; split <;> omega
        simp only
        rw [if_neg (by omega)]
        exact few_go ver life now h8 m G (some c) 1 hp' (next 1 (by omega))
      | some d =>
        obtain ⟨dk, d1, d2, d3⟩ := iS d rfl
        have hdc : CT.cmp d c < 0 := ct_c3.le_lt d1 (d2 c List.mem_cons_self)
        simp only
        by_cases hcol : colC c d
        · rw [if_pos hcol]
          have ht := col_time hcol dk hk hdc
          rw [if_neg (by omega)]
          have hca := (col_between hcol dk d1 (Int.le_of_lt (d2 c List.mem_cons_self))).1
          rw [if_pos ⟨hca.1.symm.trans hcol.1, hca.2.1.symm.trans hcol.2.1, hca.2.2.symm.trans hcol.2.2⟩] at d3
          rw [if_pos hca] at hmv
          have hw2 : IntKind.i64.wrap (n + 1) = n + 1 := by rw [IntKind.wrap_i64]; omega
          rw [hw2, if_neg (by omega)]
          exact few_go ver life now h8 m G (some c) (n + 1) hp' (next (n + 1) (by omega))
        · rw [if_neg hcol]
          have z2 : (g.move c).seen = 0 := by
            rw [hmv]
            by_cases hca : colC c g.at'
            · rw [if_pos hca]
              rw [if_neg (fun q => hcol ⟨hca.1.trans q.1, hca.2.1.trans q.2.1, hca.2.2.trans q.2.2⟩)] at d3
              exact d3
            · rw [if_neg hca]
          rw [if_neg (by omega)]
          exact few_go ver life now h8 m G (some c) 1 hp' (next 1 (by omega))
    · rw [if_neg (by rw [h2]; decide)]
      refine few_go ver life now h8 m G p n hp' ⟨by omega, by omega, fun h => ?_, fun d hd => ?_⟩
      · have z := iN h
        rw [hse, hmv]; split <;> omega
      · obtain ⟨dk, d1, d2, d3⟩ := iS d hd
        have hac := d2 c List.mem_cons_self
        refine ⟨dk, by rw [ha]; exact Int.le_of_lt (ct_c3.le_lt d1 hac), fun x hx => by rw [ha]; exact hc x hx, ?_⟩
        rw [ha, hse, hmv]
        by_cases hcol : colC c d
        · rw [if_pos hcol]
          have hca := (col_between hcol dk d1 (Int.le_of_lt hac)).1
          rw [if_pos ⟨hca.1.symm.trans hcol.1, hca.2.1.symm.trans hcol.2.1, hca.2.2.symm.trans hcol.2.2⟩] at d3
          rw [if_pos hca]
          exact d3
        · rw [if_neg hcol]
          by_cases hca : colC c g.at'
          · rw [if_pos hca]
            rw [if_neg (fun q => hcol ⟨hca.1.trans q.1, hca.2.1.trans q.2.1, hca.2.2.trans q.2.2⟩)] at d3
            exact d3
          · rw [if_neg hca]
/-- Of each column no more than so many, the latest first. -/
theorem few_all {l s : List CT} (h : SortOf l s) (ver life now : Int) : fewM ver none 0 (seenL ver life now s) = true := by
  unfold seenL
  split
  · rename_i hr
    have h8 : ver ≤ 8 := by
      unfold rightM at hr
      simp only [Bool.and_eq_true, decide_eq_true_eq] at hr
      exact hr.2.1
    exact few_go ver life now h8 s SG.zero none 0 h.rise ⟨by decide, by decide, fun _ => rfl, fun d hd => by cases hd⟩
  · rfl
end Go.Proofs.YtdjaofbjmnmlbaaDoor

/- With one version less: what is let is among what is let with it, in order, and it is half of it at least. -/
namespace Go.Proofs.YtdjaofbjmnmlbaaDoor
open Go.RowKit

/-- Is the first list found in the second, in order? The statement's walk. -/
def subM {α : Type} [DecidableEq α] : List α → List α → Bool
  | [], _ => true
  | _ :: _, [] => false
  | x :: a, y :: b => if y = x then subM a b else subM (x :: a) b
theorem subM_of {α : Type} [DecidableEq α] : ∀ (b a : List α), a.Sublist b → subM a b = true
  | _, [], _ => by unfold subM; rfl
  | [], _ :: _, h => by cases h
  | y :: b, x :: a, h => by
    unfold subM
    by_cases e : y = x
    · rw [if_pos e]
      refine subM_of b a ?_
      cases h with
      | cons _ h => exact (List.sublist_cons_self x a).trans h
      | cons_cons _ h => exact h
    · rw [if_neg e]
      refine subM_of b (x :: a) ?_
      cases h with
      | cons _ h => exact h
      | cons_cons _ h => exact absurd rfl e

/-- How the two sights stand to each other. -/
structure LessI (ver : Int) (g h : SG) : Prop where
  at' : g.at' = h.at'
  fam : g.fam = h.fam
  col : g.col = h.col
  cell : g.cell = h.cell
  lo : 0 ≤ g.seen
  seen : (g.seen < ver ∧ h.seen = g.seen) ∨ (g.seen = ver ∧ (h.seen = ver ∨ h.seen = ver + 1))
def slack (ver : Int) (g h : SG) : Nat := if 1 ≤ g.seen ∧ h.seen ≤ ver then 1 else 0
theorem less_move {ver : Int} {g h : SG} (hv : 1 ≤ ver) (i : LessI ver g h) (c : CT) : LessI ver (g.move c) (h.move c) ∧ slack ver (g.move c) (h.move c) ≤ slack ver g h := by
  unfold SG.move
  rw [i.at']
  by_cases h1 : c.r ≠ h.at'.r ∨ c.f ≠ h.at'.f
  · rw [if_pos h1, if_pos h1]
    refine ⟨⟨rfl, rfl, rfl, rfl, by show (0 : Int) ≤ 0; omega, .inl ⟨by show (0 : Int) < ver; omega, rfl⟩⟩, ?_⟩
    unfold slack
    rw [if_neg (by show ¬ ((1 : Int) ≤ 0 ∧ _); omega)]
    exact Nat.zero_le _
  · rw [if_neg h1, if_neg h1]
    by_cases h2 : c.q ≠ h.at'.q
    · rw [if_pos h2, if_pos h2]
      refine ⟨⟨rfl, i.fam, rfl, rfl, by show (0 : Int) ≤ 0; omega, .inl ⟨by show (0 : Int) < ver; omega, rfl⟩⟩, ?_⟩
      unfold slack
      rw [if_neg (by show ¬ ((1 : Int) ≤ 0 ∧ _); omega)]
      exact Nat.zero_le _
    · rw [if_neg h2, if_neg h2]
      exact ⟨⟨rfl, i.fam, i.col, i.cell, i.lo, i.seen⟩, Nat.le_refl _⟩
theorem less_go (ver life now : Int) (hv : 1 ≤ ver) (h8 : ver ≤ 7) : ∀ (m : List CT) (g h : SG), LessI ver g h →
    (seenF ver life now g m).Sublist (seenF (ver + 1) life now h m) ∧ (seenF (ver + 1) life now h m).length ≤ 2 * (seenF ver life now g m).length + slack ver g h
  | [], g, h, _ => ⟨List.Sublist.refl _, by show 0 ≤ _; omega⟩
  | c :: m, g, h, i => by
    obtain ⟨j, hsl⟩ := less_move hv i c
    have step : ((g.lets c ver life now).2 = (h.lets c (ver + 1) life now).2 ∧ LessI ver (g.lets c ver life now).1 (h.lets c (ver + 1) life now).1 ∧ ((g.lets c ver life now).2 = false → slack ver (g.lets c ver life now).1 (h.lets c (ver + 1) life now).1 ≤ slack ver (g.move c) (h.move c))) ∨
        ((g.lets c ver life now).2 = false ∧ (h.lets c (ver + 1) life now).2 = true ∧ LessI ver (g.lets c ver life now).1 (h.lets c (ver + 1) life now).1 ∧ slack ver (g.move c) (h.move c) = 1 ∧ slack ver (g.lets c ver life now).1 (h.lets c (ver + 1) life now).1 = 0) := by
      have hhas : (h.move c).has c.t = (g.move c).has c.t := by unfold SG.has; rw [j.col, j.fam, j.cell]
      have jl := j.lo
      have js := j.seen
      unfold SG.lets
      simp only
      rw [hhas]
      by_cases k4 : c.k = 4
      · rw [if_pos k4, if_pos k4]
        exact .inl ⟨rfl, ⟨j.at', by show max _ _ = max _ _; rw [j.fam], j.col, j.cell, j.lo, j.seen⟩, fun _ => Nat.le_refl _⟩
      rw [if_neg k4, if_neg k4]
      by_cases k3 : c.k = 3
      · rw [if_pos k3, if_pos k3]
        exact .inl ⟨rfl, ⟨j.at', j.fam, rfl, j.cell, j.lo, j.seen⟩, fun _ => Nat.le_refl _⟩
      rw [if_neg k3, if_neg k3]
      by_cases k2 : c.k = 2
      · rw [if_pos k2, if_pos k2]
        exact .inl ⟨rfl, ⟨j.at', j.fam, j.col, rfl, j.lo, j.seen⟩, fun _ => Nat.le_refl _⟩
      rw [if_neg k2, if_neg k2]
      by_cases hc : c.k = 1 ∧ (g.move c).has c.t = true ∧ livesM life now c.t = true
      · obtain ⟨a1, a2, a3⟩ := hc
        rcases js with ⟨s1, s2⟩ | ⟨s1, s2 | s2⟩
        · rw [if_pos ⟨a1, a2, a3, s1⟩, if_pos ⟨a1, a2, a3, by omega⟩]
          have w1 : IntKind.i64.wrap ((g.move c).seen + 1) = (g.move c).seen + 1 := by rw [IntKind.wrap_i64]; omega
          refine .inl ⟨rfl, ⟨j.at', j.fam, j.col, j.cell, ?_, ?_⟩, fun q => by cases q⟩
          · show 0 ≤ IntKind.i64.wrap ((g.move c).seen + 1)
            rw [w1]; omega
          · show (IntKind.i64.wrap ((g.move c).seen + 1) < ver ∧ IntKind.i64.wrap ((h.move c).seen + 1) = IntKind.i64.wrap ((g.move c).seen + 1)) ∨ (IntKind.i64.wrap ((g.move c).seen + 1) = ver ∧ (IntKind.i64.wrap ((h.move c).seen + 1) = ver ∨ IntKind.i64.wrap ((h.move c).seen + 1) = ver + 1))
            rw [s2, w1]; omega
        · rw [if_neg (by rintro ⟨-, -, -, q⟩; omega), if_pos ⟨a1, a2, a3, by omega⟩]
          have w1 : IntKind.i64.wrap ((h.move c).seen + 1) = (h.move c).seen + 1 := by rw [IntKind.wrap_i64]; omega
          refine .inr ⟨rfl, rfl, ⟨j.at', j.fam, j.col, j.cell, j.lo, .inr ⟨s1, .inr ?_⟩⟩, ?_, ?_⟩
          · show IntKind.i64.wrap ((h.move c).seen + 1) = ver + 1
            rw [w1]; omega
          · unfold slack; rw [if_pos ⟨by omega, by omega⟩]
          · unfold slack
            rw [if_neg]
            rintro ⟨-, q⟩
            have q : IntKind.i64.wrap ((h.move c).seen + 1) ≤ ver := q
            rw [w1] at q; omega
        · rw [if_neg (by rintro ⟨-, -, -, q⟩; omega), if_neg (by rintro ⟨-, -, -, q⟩; omega)]
          exact .inl ⟨rfl, j, fun _ => Nat.le_refl _⟩
      · rw [if_neg (fun q => hc ⟨q.1, q.2.1, q.2.2.1⟩), if_neg (fun q => hc ⟨q.1, q.2.1, q.2.2.1⟩)]
        exact .inl ⟨rfl, j, fun _ => Nat.le_refl _⟩
    show (if (g.lets c ver life now).2 = true then c :: seenF ver life now (g.lets c ver life now).1 m else seenF ver life now (g.lets c ver life now).1 m).Sublist (if (h.lets c (ver + 1) life now).2 = true then c :: seenF (ver + 1) life now (h.lets c (ver + 1) life now).1 m else seenF (ver + 1) life now (h.lets c (ver + 1) life now).1 m) ∧ (if (h.lets c (ver + 1) life now).2 = true then c :: seenF (ver + 1) life now (h.lets c (ver + 1) life now).1 m else seenF (ver + 1) life now (h.lets c (ver + 1) life now).1 m).length ≤ 2 * (if (g.lets c ver life now).2 = true then c :: seenF ver life now (g.lets c ver life now).1 m else seenF ver life now (g.lets c ver life now).1 m).length + slack ver g h
    rcases step with ⟨e, ji, hs⟩ | ⟨e1, e2, ji, z1, z2⟩
    · obtain ⟨r1, r2⟩ := less_go ver life now hv h8 m _ _ ji
      have s1 : slack ver (g.lets c ver life now).1 (h.lets c (ver + 1) life now).1 ≤ 1 := by unfold slack; split <;> omega
      rw [← e]
      cases hb : (g.lets c ver life now).2 with
      | true =>
        simp only [if_true]
        exact ⟨List.Sublist.cons_cons _ r1, by simp only [List.length_cons]; omega⟩
      | false =>
        have := hs hb
        rw [if_neg (by decide), if_neg (by decide)]
        exact ⟨r1, by omega⟩
    · obtain ⟨r1, r2⟩ := less_go ver life now hv h8 m _ _ ji
      rw [e1, e2, if_neg (by decide), if_pos rfl]
      exact ⟨r1.cons _, by simp only [List.length_cons]; omega⟩
theorem less_all (ver life now : Int) (hv : 1 ≤ ver) (h8 : ver ≤ 7) (s : List CT) : (seenL ver life now s).Sublist (seenL (ver + 1) life now s) ∧ (seenL (ver + 1) life now s).length ≤ 2 * (seenL ver life now s).length := by
  unfold seenL
  have e : rightM (ver + 1) life = rightM ver life := by
    unfold rightM
    rw [decide_eq_true hv, decide_eq_true (by omega : 1 ≤ ver + 1), decide_eq_true (by omega : ver ≤ 8), decide_eq_true (by omega : ver + 1 ≤ 8)]
  rw [e]
  split
  · have := less_go ver life now hv h8 s SG.zero SG.zero ⟨rfl, rfl, rfl, rfl, by decide, .inl ⟨by show (0 : Int) < ver; omega, rfl⟩⟩
    have z : slack ver SG.zero SG.zero = 0 := rfl
    rw [z] at this
    exact this
  · exact ⟨List.Sublist.refl _, Nat.zero_le _⟩
end Go.Proofs.YtdjaofbjmnmlbaaDoor
