/- MergeSkips: behind a Skip comes what would have come behind all that is ahead of the cell. Conditions: the arguments stand, their numbers are of 64 bits; the tables of utf8 read as they are laid. -/
import Derived.Test.YtdgkbpplngjonaaDoorMgZ
namespace Go.Proofs.YtdgkbpplngjonaaDoor
open Go.RowKit

/-- Where the law is behind New. -/
structure SqM (w W : World) (B G mb : Nat) (va : Value) (ml : List CT) (tb : Nat) (c : CT) (H : List (Rn CT)) : Prop where
  ms : MgS W B G G mb H
  cl : CRow W 0 va ml
  vb : ∀ k, va.ownBlock = some k → k < B
  ce : DW W tb c
  tl : tb < B
  be : Below w.heap.size w W
  wb : w.heap.size ≤ B
  bw : B ≤ W.heap.size
theorem SqM.below {w W W2 : World} {B G mb tb : Nat} {va : Value} {ml : List CT} {c : CT} {H : List (Rn CT)} (h : SqM w W B G mb va ml tb c H) (hb : Below W.heap.size W W2) : SqM w W2 B G mb va ml tb c H :=
  ⟨h.ms.below hb, h.cl.below hb, h.vb, h.ce.below hb, h.tl, h.be.trans (hb.mono h.be.size), h.wb, Nat.le_trans h.bw hb.size⟩
theorem SqM.mdl {w W W2 : World} {B G mb tb : Nat} {va : Value} {ml : List CT} {c : CT} {H H2 : List (Rn CT)} (h : SqM w W B G mb va ml tb c H) (hm : Mdl B G W W2) (hs : MgS W2 B G G mb H2) : SqM w W2 B G mb va ml tb c H2 := by
  have hb := hm.below h.bw
  exact ⟨hs, x_own0 h.cl fun k hk => hb.block k (h.vb k hk), h.vb, h.ce.keep hb h.tl, h.tl, h.be.trans (hb.mono h.wb), h.wb, Nat.le_trans h.bw hm.size⟩
theorem filt_go {ml : List CT} {i : Nat} {d : CT} (hd : ml[i]? = some d) (p : CT → Bool) : (ml.drop i).filter p = if p d = true then d :: (ml.drop (i + 1)).filter p else (ml.drop (i + 1)).filter p := by
  obtain ⟨hi, e⟩ := List.getElem?_eq_some_iff.1 hd
  rw [List.drop_eq_getElem_cons hi, e, List.filter_cons]

set_option maxHeartbeats 16000000 in
set_option maxRecDepth 100000 in
theorem skips_any (v : Value) (rs : List (List CT)) (c : CT) (w : World) (h : RsA w v rs) (hv : ∀ l ∈ rs, ∀ c ∈ l, inI c.vn) (hcv : inI c.vn) (hL : LaidU w) :
    Calls Tryd.prog 12 #[v, c.v] w fun e w' => e = .returned (.bool true) ∧ Below w.heap.size w w' := by
  have mixed : Tryd.prog.follows .mixedOrders = true := by kernel_rfl
  have HH := hid h
  have HL := hid hL
  have HV := hid (And.intro hv hcv)
  obtain ⟨A0, c0, rfl, -, -, hh⟩ := h
  have HH3 := hid hh
  obtain ⟨N, hN⟩ : ∃ N, rs.length = N := ⟨_, rfl⟩
  have HN := hid hN
  rw [hN] at HH ⊢
  clear hv hcv hL hN hh
  go_enter Tryd.func12, Tryd.ntmps12
  go_upto_region 1 with (fail)
  obtain ⟨tb, htb⟩ : ∃ tb, w.heap.size = tb := ⟨_, rfl⟩
  obtain ⟨B0, hB0⟩ : ∃ B0, B0 = w.heap.size := ⟨_, rfl⟩
  refine wp_lt9 (fun W => Hid (DW W tb c ∧ Below B0 w W)) ?_ ?_
  · rw [← htb, hB0]
    exact ⟨Blk.new w _ _, below_new w _⟩
  rw [htb]
  clear htb
  rintro w0 H0
  subst hB0
  have HAl := hid (alive10_any w0 (HL.out.below H0.out.2))
  have HGr : Hid (∀ W, Below w0.heap.size w0 W → Calls Tryd.prog 48 #[.slice A0 N c0] W fun e w' => e = .returned (.bool (greatB rs)) ∧ Below W.heap.size W w') := fun W hW => great10_any _ rs W ((HH.out.below (H0.out.2)).below hW)
  go_upto_region 3 with (first | (go_at_call 47; refine HAl.out.mono ?_; rintro e w1 ⟨rfl, hb1⟩))
  have HB1 := hid (And.intro (DW.below H0.out.1 hb1) (H0.out.2.trans (hb1.mono H0.out.2.size)))
  have HGr1 := hid (HGr.out w1 hb1)
  clear hb1 HAl HGr H0
  cases hg : greatB rs with
  | true =>
    rw [hg] at HGr1
    go_wp2_with (first | (go_at_call 48; refine HGr1.out.mono ?_; rintro e w2 ⟨rfl, hb2⟩))
    go_ret
    exact ⟨rfl, HB1.out.2.trans (hb2.mono HB1.out.2.size)⟩
  | false =>
    have HSm := hid (great_ok10 hg HV.out.1)
    rw [hg] at HGr1
    clear hg
    have HLo : Hid (∀ W, Calls Tryd.prog 31 #[.slice (some ⟨W.heap.size, 0, none⟩) 1 1, .int .i64 1] (W.alloc (.cells #[.string c.r, .string c.f, .string c.q, .int .i64 c.t, .int .i64 c.k, .int .i64 c.vk, .int .i64 c.vn, .string c.s] 28)) fun e w' => e = .returned (.bool (longM 1 [c])) ∧ Below W.heap.size W w') := fun W => (longcells_at 1 _ [c] _ (one_cla9 W c)).mono fun e w' ⟨he, hb⟩ => ⟨he, (below_new W _).trans (hb.mono (below_new W _).size)⟩
    have HSc : Hid (longM 1 [c] = false → Sm c) := fun e => (longM_ok e fun x hx => by rw [List.mem_singleton.1 hx]; exact HV.out.2).2 c (by simp)
    obtain ⟨lg, hlg⟩ : ∃ lg, longM 1 [c] = lg := ⟨_, rfl⟩
    rw [hlg] at HLo HSc
    clear hlg HV
    have HW2 : Hid (∀ W, Below w1.heap.size w1 W → W.cell? ⟨tb, 0, none⟩ = some (.string c.r) ∧ W.cell? ⟨tb, 1, none⟩ = some (.string c.f) ∧ W.cell? ⟨tb, 2, none⟩ = some (.string c.q) ∧ W.cell? ⟨tb, 3, none⟩ = some (.int .i64 c.t) ∧ W.cell? ⟨tb, 4, none⟩ = some (.int .i64 c.k) ∧ W.cell? ⟨tb, 5, none⟩ = some (.int .i64 c.vk) ∧ W.cell? ⟨tb, 6, none⟩ = some (.int .i64 c.vn) ∧ W.cell? ⟨tb, 7, none⟩ = some (.string c.s)) := fun W hW => (DW.below HB1.out.1 hW).words
    cases lg with
    | true =>
      go_wp2_with (first
        | (go_at_call 48; refine HGr1.out.mono ?_; rintro e w2 ⟨rfl, hb2⟩; obtain ⟨y0, y1, y2, y3, y4, y5, y6, y7⟩ := HW2.out w2 hb2; have HB2 := hid (HB1.out.2.trans (hb2.mono HB1.out.2.size)); clear hb2)
        | (go_at_call 31; refine (HLo.out _).mono ?_; rintro e w3 ⟨rfl, hb3⟩))
      go_ret
      exact ⟨rfl, HB2.out.trans (hb3.mono HB2.out.size)⟩
    | false =>
      have HSc2 := hid (HSc.out rfl)
      clear HSc
      go_upto_region 6 with (first
        | (go_at_call 48; refine HGr1.out.mono ?_; rintro e w2 ⟨rfl, hb2⟩; obtain ⟨y0, y1, y2, y3, y4, y5, y6, y7⟩ := HW2.out w2 hb2; have HB2 := hid (And.intro (DW.below HB1.out.1 hb2) (HB1.out.2.trans (hb2.mono HB1.out.2.size))); clear hb2)
        | (go_at_call 31; refine (HLo.out _).mono ?_; rintro e w3 ⟨rfl, hb3⟩; have HB3 := hid (And.intro (DW.below HB2.out.1 hb3) (HB2.out.2.trans (hb3.mono HB2.out.2.size))); clear hb3))
      clear y0 y1 y2 y3 y4 y5 y6 y7
      have hE := empty_qrow w3 w3.heap.size (Nat.le_refl _)
      have hbE := below_new w3 (.cells #[] 39)
      have HE : Hid (QRow (w3.alloc (.cells #[] 39)) w3.heap.size (.slice (some ⟨w3.heap.size, 0, none⟩) 0 0) (srt (rs.take 0)) ∧ Below w3.heap.size w3 (w3.alloc (.cells #[] 39))) := ⟨hE, hbE⟩
      have HSo : Hid (∀ (u : Value) (r : List CT) (W : World), ClA W u r → r ∈ rs → Calls Tryd.prog 40 #[u] W fun e w' => ∃ v', e = .returned v' ∧ CRow w' W.heap.size v' (sortL [] r) ∧ Below W.heap.size W w') := fun u r W hW hr => by
        have h1 := HSm.out.2 r hr
        exact refsort_any u r W hW h1.2 (by omega)
      clear HB1 HB2 HGr1 HLo HW2 hE hbE
      go_wp2
      go_loopw [5, 6] (fun vr vi wr => ∃ i g c : Nat, i ≤ N ∧ vi = .int .i64 i ∧ vr = .slice (some ⟨g, 0, none⟩) i c ∧ Hid (QRow wr w3.heap.size (.slice (some ⟨g, 0, none⟩) i c) (srt (rs.take i)) ∧ Below w3.heap.size w3 wr)) (fun _ vi _ => N - (intOf vi).toNat)
      case atStart => exact ⟨0, _, _, Nat.zero_le _, rfl, rfl, HE.out⟩
      case round =>
        clear HE
        obtain ⟨i, gr, cr, hi, rfl, rfl, HI⟩ := hrel
        by_cases hlt : i < N
        · have hltz : (i : Int) < (N : Int) := by omega
          have hil : i < rs.length := by rw [HN.out]; exact hlt
          obtain ⟨bb, off, rfl, hhc⟩ := HH3.out (by omega)
          obtain ⟨r, hr⟩ : ∃ r, rs[i]? = some r := ⟨_, List.getElem?_eq_getElem hil⟩
          obtain ⟨u, hu, hcl⟩ := hhc i r hr
          have hbw := HB3.out.2.trans (HI.out.2.mono HB3.out.2.size)
          have x0 := (hbw.cell (p := ⟨bb, off + i, none⟩) (cell_lt hu)).trans hu
          have HSr := hid (HSo.out u r wr (hcl.below hbw) (List.mem_of_getElem? hr))
          have HTk := hid (srt_snoc hr)
          have hN12 : N ≤ 12 := by have := HSm.out.1; rw [HN.out] at this; exact this
          have hql : (srt (rs.take i)).length = i := by rw [srt_len, List.length_take]; omega
          have HQl := hid hql
          obtain ⟨Au, cu, rfl, -⟩ := hcl
          obtain ⟨nr, hnr⟩ : ∃ nr, r.length = nr := ⟨_, rfl⟩
          rw [hnr] at x0 HSr
          clear hr hu hnr hil hhc hbw hql
          go_upto_region 8 with (first
            | (go_at_call 40; refine HSr.out.mono ?_; rintro e w5 ⟨v5, rfl, hr5, hb5⟩; obtain ⟨A5, c5, rfl, -⟩ := hr5.len; have HQ5 := hid (And.intro (HI.out.1.below hb5) (And.intro hr5 hb5)); clear hr5 hb5)
            | (at_builtin; refine wpList_append_part9 rfl (.tmp 32) (.tmp 38) rfl _ w3.heap.size _ (srt (rs.take i)) rfl (HQ5.out.1.below (below_new w5 (.cells #[.slice A5 (sortL [] r).length c5] 39))) w5.heap.size 1 (.slice A5 (sortL [] r).length c5) (sortL [] r) rfl ((Blk.new w5 39 #[.slice A5 (sortL [] r).length c5]).cell 0) (CRow.le (HQ5.out.2.1.below (below_new w5 (.cells #[.slice A5 (sortL [] r).length c5] 39))) (Nat.le_trans HI.out.2.size (Nat.le_refl _))) (by rw [HQl.out]; omega) (Nat.le_trans (Nat.le_trans HI.out.2.size HQ5.out.2.2.size) (below_new w5 (.cells #[.slice A5 (sortL [] r).length c5] 39)).size) ?_; intro v6 w6 hr6 hb6; obtain ⟨g6, c6, rfl⟩ := qrow_some hr6 (by rw [List.length_append, List.length_singleton]; omega); have HE6 := hid (And.intro hr6 ((HI.out.2.trans (HQ5.out.2.2.mono HI.out.2.size)).trans (((below_new w5 (.cells #[.slice A5 (sortL [] r).length c5] 39)).mono (Nat.le_trans HI.out.2.size HQ5.out.2.2.size)).trans hb6))); clear hr6 hb6))
          rw [show (srt (rs.take i) ++ [sortL [] r]).length = i + 1 by rw [List.length_append, HQl.out]; rfl] at HE6
          rw [HQl.out]
          go_wp2
          go_roundw
          case rel => exact ⟨i + 1, g6, c6, by omega, by go_num, rfl, by rw [HTk.out]; exact HE6.out.1, HE6.out.2⟩
          case measure => simp [intOf]; omega
        · obtain rfl : i = N := by omega
          have HR : Hid (RsA wr (.slice (some ⟨gr, 0, none⟩) i cr) (srt rs) ∧ DW wr tb c ∧ Below w.heap.size w wr) := by
            have h1 := HI.out.1.rsa
            rw [show rs.take i = rs by rw [← HN.out, List.take_length]] at h1
            exact ⟨h1, DW.below HB3.out.1 HI.out.2, HB3.out.2.trans (HI.out.2.mono HB3.out.2.size)⟩
          have HOk := hid (srt_ok HSm.out.2)
          have hsl : (srt rs).length = i := by rw [srt_len, HN.out]
          have hi12 : i ≤ 12 := by have := HSm.out.1; rw [HN.out] at this; exact this
          obtain ⟨ml, hm, -, hml, hms⟩ := told_ok HOk.out (by omega)
          have HM := hid hm
          have HMl := hid (And.intro hml hms)
          have HGd : Hid (Gd (runsF begL 0 (srt rs))) := runs_gd (fun l hl => by have := (HOk.out l hl).2.1; omega) (by omega)
          have HMe := hid (merge_any _ (srt rs) wr HR.out.1 (fun l hl => ⟨by have := (HOk.out l hl).2.1; omega, fun c hc => ((HOk.out l hl).2.2 c hc).1⟩) (by omega) (HL.out.below HR.out.2.2) hm)
          have HNw : Hid (∀ W, Below wr.heap.size wr W → Calls Tryd.prog 49 #[.slice (some ⟨gr, 0, none⟩) i cr] W fun e w' => NwE W (runsF begL 0 (srt rs)) e w') := fun W hW => new_any _ (srt rs) W (HR.out.1.below hW) (fun l hl => ⟨by have := (HOk.out l hl).2.1; omega, fun c hc => sm_okn ((HOk.out l hl).2.2 c hc)⟩) (by omega) (HL.out.below (HR.out.2.2.trans (hW.mono HR.out.2.2.size)))
          clear hm hml hms hsl HSo HI HH HH3 HSm HB3 HOk
          go_upto_region 11 with (first | (go_at_call 57; refine HMe.out.mono ?_; rintro e w7 ⟨va, rfl, hr7, hb7⟩))
          have HD7 := hid (And.intro hr7 (And.intro (DW.below HR.out.2.1 hb7) (HR.out.2.2.trans (hb7.mono HR.out.2.2.size))))
          have HNw7 := hid (HNw.out w7 hb7)
          obtain ⟨Aa, ca, rfl, -⟩ := hr7.len
          clear hr7 hb7 HMe HNw HR
          go_upto_region 14 with (first | (go_at_call 49; refine HNw7.out.mono ?_; rintro e w8 ⟨mb, rfl, hb8, hS8⟩))
          obtain ⟨G, hG⟩ : ∃ G, w8.heap.size = G := ⟨_, rfl⟩
          obtain ⟨B, hB⟩ : ∃ B, w7.heap.size = B := ⟨_, rfl⟩
          obtain ⟨n, hn⟩ : ∃ n, ml.length = n := ⟨_, rfl⟩
          have HN7 := hid hn
          have HQ8 : Hid (SqM w w8 B G mb (.slice Aa n ca) ml tb c (runsF begL 0 (srt rs))) := by
            rw [hG, hB] at hS8
            rw [hn] at HD7
            exact ⟨hS8, CRow.le (HD7.out.1.below hb8) (Nat.zero_le _), fun k hk => by rw [← hB]; exact (World.ownsRow.lt HD7.out.1 k hk).2, DW.below HD7.out.2.1 hb8, by rw [← hB]; exact Blk.lt HD7.out.2.1, HD7.out.2.2.trans (hb8.mono HD7.out.2.2.size), by rw [← hB]; exact HD7.out.2.2.size, by rw [← hB]; exact hb8.size⟩
          rw [hn]
          have hnb : n ≤ 720 := by rw [← hn]; exact HMl.out.1
          clear hG hB hn hb8 hS8 HNw7 HD7
          obtain ⟨y0, y1, y2, y3, y4, y5, y6, y7⟩ := HQ8.out.ce.words
          have HSk := hid (skip_mg c w8 HQ8.out.ms HGd.out)
          go_upto_region 15 with (first | (go_at_call 55; refine HSk.out.mono ?_; rintro e w9 ⟨rfl, hS9, hM9⟩))
          have HI9 : Hid (SqM w w9 B G mb (.slice Aa n ca) ml tb c (skA CT.cmp c (runsF begL 0 (srt rs))) ∧ Gd (skA CT.cmp c (runsF begL 0 (srt rs))) ∧ MgO CT.cmp (skA CT.cmp c (runsF begL 0 (srt rs))) ((ml.drop 0).filter fun d => !decide (CT.cmp d c < 0))) := ⟨HQ8.out.mdl hM9 hS9, HGd.out.sk c, by rw [List.drop_zero]; exact mgo_sk ct_c3 HGd.out.rise HM.out⟩
          clear y0 y1 y2 y3 y4 y5 y6 y7 HSk HQ8 HGd HM hS9 hM9
          go_wp2
          go_loopw [9] (fun vi wr => ∃ (i : Nat) (H : List (Rn CT)), i ≤ n ∧ vi = .int .i64 i ∧ Hid (SqM w wr B G mb (.slice Aa n ca) ml tb c H ∧ Gd H ∧ MgO CT.cmp H ((ml.drop i).filter fun d => !decide (CT.cmp d c < 0)))) (fun vi _ => n - (intOf vi).toNat)
          case atStart => exact ⟨0, _, Nat.zero_le _, rfl, HI9.out⟩
          case round =>
            clear HI9
            obtain ⟨i, H, hi, rfl, HI⟩ := hrel
            by_cases hlt : i < n
            · have hltz : (i : Int) < (n : Int) := by omega
              have hil : i < ml.length := by rw [HN7.out]; exact hlt
              obtain ⟨d, hd⟩ : ∃ d, ml[i]? = some d := ⟨_, List.getElem?_eq_getElem hil⟩
              have HD := hid hd
              obtain ⟨lb, cl, e9⟩ := crow_slice HI.out.1.cl (by rw [HN7.out]; omega)
              injection e9 with e91 e92 e93
              subst e91 e93
              have HLb : Hid (lb < wr.heap.size) := (World.ownsRow.lt HI.out.1.cl lb rfl).2
              have HP := hid (ct_words HI.out.1.cl.hc i hd)
              obtain ⟨o, ho⟩ : ∃ o, CT.cmp d c = o := ⟨_, rfl⟩
              have HOr : Hid (∀ W, Calls Tryd.prog 46 #[d.v, c.v] W fun e w' => e = .returned (.int .i64 o) ∧ Below W.heap.size W w') := fun W => by rw [← ho]; exact reforder_ct d c (HMl.out.2 d (List.mem_of_getElem? hd)) HSc2.out W
              have HFg := hid (filt_go hd fun d => !decide (CT.cmp d c < 0))
              have HT : Hid (PaX wr lb (i * 8) tb 0 d c wr) := ⟨hid ⟨Below.refl _ _, HLb.out, Blk.lt HI.out.1.ce⟩, by have := HP.out; rw [Nat.zero_add] at this; exact this, HI.out.1.ce.words⟩
              obtain ⟨-, ⟨x0, x1, x2, x3, x4, x5, x6, x7⟩, ⟨y0, y1, y2, y3, y4, y5, y6, y7⟩⟩ := HT.out
              have HO := hid ho
              clear hd e92 hil ho
              go_upto_region 18 with (fail)
              refine wp_region_held_drew (S := (fun W' => Hid (Below wr.heap.size wr W' ∧ lb < wr.heap.size ∧ tb < wr.heap.size) ∧ (W'.cell? ⟨lb, i * 8, none⟩ = some (.string d.r) ∧ W'.cell? ⟨lb, i * 8 + 1, none⟩ = some (.string d.f) ∧ W'.cell? ⟨lb, i * 8 + 2, none⟩ = some (.string d.q) ∧ W'.cell? ⟨lb, i * 8 + 3, none⟩ = some (.int .i64 d.t) ∧ W'.cell? ⟨lb, i * 8 + 4, none⟩ = some (.int .i64 d.k) ∧ W'.cell? ⟨lb, i * 8 + 5, none⟩ = some (.int .i64 d.vk) ∧ W'.cell? ⟨lb, i * 8 + 6, none⟩ = some (.int .i64 d.vn) ∧ W'.cell? ⟨lb, i * 8 + 7, none⟩ = some (.string d.s)) ∧ (W'.cell? ⟨tb, 0, none⟩ = some (.string c.r) ∧ W'.cell? ⟨tb, 1, none⟩ = some (.string c.f) ∧ W'.cell? ⟨tb, 2, none⟩ = some (.string c.q) ∧ W'.cell? ⟨tb, 3, none⟩ = some (.int .i64 c.t) ∧ W'.cell? ⟨tb, 4, none⟩ = some (.int .i64 c.k) ∧ W'.cell? ⟨tb, 5, none⟩ = some (.int .i64 c.vk) ∧ W'.cell? ⟨tb, 6, none⟩ = some (.int .i64 c.vn) ∧ W'.cell? ⟨tb, 7, none⟩ = some (.string c.s)))) (by kernel_rfl) ?_ (fun hHeld => ?_)
              (exact pax_drew HT.out)
              (refine wpAnyH_take (i := 0) (v := ?_) rfl (by kernel_rfl) (by kernel_rfl) (by kernel_rfl) (fun _ _ _ h => h) (Or.inl ⟨by kernel_rfl, ?_⟩) (by assumption) ?_; rotate_left; · (intro w hSw; (try dsimp only at hSw); go_simp; first | done | with_reducible rfl))
              (try simp only [Act.put]); (try simp only [List.getElem_toArray]); (try simp only [List.getElem_cons_succ]); (try simp only [List.getElem_cons_zero]); (try simp only [List.setIfInBounds_toArray]); (try simp only [List.set_cons_succ]); (try simp only [List.set_cons_zero])
              (refine wpAnyH_take (i := 1) (v := ?_) rfl (by kernel_rfl) (by kernel_rfl) (by kernel_rfl) (fun _ _ _ h => h) (Or.inl ⟨by kernel_rfl, ?_⟩) (by assumption) ?_; rotate_left; · (intro w hSw; (try dsimp only at hSw); go_simp; first | done | with_reducible rfl))
              (try simp only [Act.put]); (try simp only [List.getElem_toArray]); (try simp only [List.getElem_cons_succ]); (try simp only [List.getElem_cons_zero]); (try simp only [List.setIfInBounds_toArray]); (try simp only [List.set_cons_succ]); (try simp only [List.set_cons_zero])
              (refine wpAnyH_take (i := 2) (v := ?_) rfl (by kernel_rfl) (by kernel_rfl) (by kernel_rfl) (fun _ _ _ h => h) (Or.inl ⟨by kernel_rfl, ?_⟩) (by assumption) ?_; rotate_left; · (intro w hSw; (try dsimp only at hSw); go_simp; first | done | with_reducible rfl))
              (try simp only [Act.put]); (try simp only [List.getElem_toArray]); (try simp only [List.getElem_cons_succ]); (try simp only [List.getElem_cons_zero]); (try simp only [List.setIfInBounds_toArray]); (try simp only [List.set_cons_succ]); (try simp only [List.set_cons_zero])
              (refine wpAnyH_take (i := 3) (v := ?_) rfl (by kernel_rfl) (by kernel_rfl) (by kernel_rfl) (fun _ _ _ h => h) (Or.inl ⟨by kernel_rfl, ?_⟩) (by assumption) ?_; rotate_left; · (intro w hSw; (try dsimp only at hSw); go_simp; first | done | with_reducible rfl))
              (try simp only [Act.put]); (try simp only [List.getElem_toArray]); (try simp only [List.getElem_cons_succ]); (try simp only [List.getElem_cons_zero]); (try simp only [List.setIfInBounds_toArray]); (try simp only [List.set_cons_succ]); (try simp only [List.set_cons_zero])
              (refine wpAnyH_take (i := 4) (v := ?_) rfl (by kernel_rfl) (by kernel_rfl) (by kernel_rfl) (fun _ _ _ h => h) (Or.inl ⟨by kernel_rfl, ?_⟩) (by assumption) ?_; rotate_left; · (intro w hSw; (try dsimp only at hSw); go_simp; first | done | with_reducible rfl))
              (try simp only [Act.put]); (try simp only [List.getElem_toArray]); (try simp only [List.getElem_cons_succ]); (try simp only [List.getElem_cons_zero]); (try simp only [List.setIfInBounds_toArray]); (try simp only [List.set_cons_succ]); (try simp only [List.set_cons_zero])
              (refine wpAnyH_ready (rs := [5]) (by kernel_rfl) (by simp) (AllReadyH.cons rfl (fun K hK => ?_) AllReadyH.nil); go_simp; (go_at_call 46; refine (HOr.out _).mono ?_; rintro e w5 ⟨rfl, hb5⟩); refine hK.out _ _ ?_ (fun hHeld => ?_))
              · exact pax_call (by assumption) hb5
              clear hK K
              (try simp only [Act.put]); (try simp only [List.getElem_toArray]); (try simp only [List.getElem_cons_succ]); (try simp only [List.getElem_cons_zero]); (try simp only [List.setIfInBounds_toArray]); (try simp only [List.set_cons_succ]); (try simp only [List.set_cons_zero])
              (refine wpAnyH_take (i := 6) (v := ?_) rfl (by kernel_rfl) (by kernel_rfl) (by kernel_rfl) (fun _ _ _ h => h) (Or.inl ⟨by kernel_rfl, ?_⟩) (by assumption) ?_; rotate_left; · (intro w hSw; (try dsimp only at hSw); go_simp; first | done | with_reducible rfl))
              (try simp only [Act.put]); (try simp only [List.getElem_toArray]); (try simp only [List.getElem_cons_succ]); (try simp only [List.getElem_cons_zero]); (try simp only [List.setIfInBounds_toArray]); (try simp only [List.set_cons_succ]); (try simp only [List.set_cons_zero])
              refine wpAnyH_done (by kernel_rfl) ?_ _
              have HI5 := hid (And.intro (HI.out.1.below hHeld.1.out.1) HI.out.2)
              clear hHeld HT HP
              clear x0 x1 x2 x3 x4 x5 x6 x7 y0 y1 y2 y3 y4 y5 y6 y7
              by_cases hon : o < 0
              · have HF2 : Hid (MgO CT.cmp H ((ml.drop (i + 1)).filter fun d => !decide (CT.cmp d c < 0))) := by
                  have := HI5.out.2.2
                  rw [HFg.out, if_neg (by rw [HO.out, decide_eq_true hon]; simp)] at this
                  exact this
                go_wp2
                go_roundw
                case rel => exact ⟨i + 1, H, by omega, by go_num, HI5.out.1, HI5.out.2.1, HF2.out⟩
                case measure => simp [intOf]; omega
              · have HF2 : Hid (MgO CT.cmp H (d :: (ml.drop (i + 1)).filter fun d => !decide (CT.cmp d c < 0))) := by
                  have := HI5.out.2.2
                  rw [HFg.out, if_pos (by rw [HO.out, decide_eq_false hon]; rfl)] at this
                  exact this
                have HNx := hid (next_mg w5 HI5.out.1.ms HI5.out.2.1 HF2.out HI5.out.1.ms.2.1)
                go_upto_region 20 with (first | (go_at_call 51; refine HNx.out.mono ?_; rintro e w7 ⟨r7, t7, hp7, hl7, hr7, rfl, hS7, hM7, hG7, hO7⟩))
                have HI7 := hid (And.intro (HI5.out.1.mdl hM7 hS7) (And.intro hG7 hO7))
                clear hp7 hl7 hr7 hS7 hM7 hG7 hO7 HNx HI5 HF2
                obtain ⟨nb, hnb9⟩ : ∃ nb, w7.heap.size = nb := ⟨_, rfl⟩
                refine wp_lt9 (fun W => Hid (SqM w W B G mb (.slice (some ⟨lb, 0, none⟩) n ca) ml tb c (popA CT.cmp d (r7 :: t7)) ∧ DW W nb d)) ?_ ?_
                · rw [← hnb9]
                  exact ⟨HI7.out.1.below (below_new w7 _), Blk.new w7 _ _⟩
                rw [hnb9]
                clear hnb9
                rintro w6 HI6
                have HT2 : Hid (PaX w6 lb (i * 8) nb 0 d d w6) := ⟨hid ⟨Below.refl _ _, (World.ownsRow.lt HI6.out.1.cl lb rfl).2, Blk.lt HI6.out.2⟩, by have := ct_words HI6.out.1.cl.hc i HD.out; rw [Nat.zero_add] at this; exact this, HI6.out.2.words⟩
                obtain ⟨-, ⟨x0, x1, x2, x3, x4, x5, x6, x7⟩, ⟨y0, y1, y2, y3, y4, y5, y6, y7⟩⟩ := HT2.out
                refine wp_region_held_drew (S := (fun W' => Hid (Below w6.heap.size w6 W' ∧ lb < w6.heap.size ∧ nb < w6.heap.size) ∧ (W'.cell? ⟨lb, i * 8, none⟩ = some (.string d.r) ∧ W'.cell? ⟨lb, i * 8 + 1, none⟩ = some (.string d.f) ∧ W'.cell? ⟨lb, i * 8 + 2, none⟩ = some (.string d.q) ∧ W'.cell? ⟨lb, i * 8 + 3, none⟩ = some (.int .i64 d.t) ∧ W'.cell? ⟨lb, i * 8 + 4, none⟩ = some (.int .i64 d.k) ∧ W'.cell? ⟨lb, i * 8 + 5, none⟩ = some (.int .i64 d.vk) ∧ W'.cell? ⟨lb, i * 8 + 6, none⟩ = some (.int .i64 d.vn) ∧ W'.cell? ⟨lb, i * 8 + 7, none⟩ = some (.string d.s)) ∧ (W'.cell? ⟨nb, 0, none⟩ = some (.string d.r) ∧ W'.cell? ⟨nb, 1, none⟩ = some (.string d.f) ∧ W'.cell? ⟨nb, 2, none⟩ = some (.string d.q) ∧ W'.cell? ⟨nb, 3, none⟩ = some (.int .i64 d.t) ∧ W'.cell? ⟨nb, 4, none⟩ = some (.int .i64 d.k) ∧ W'.cell? ⟨nb, 5, none⟩ = some (.int .i64 d.vk) ∧ W'.cell? ⟨nb, 6, none⟩ = some (.int .i64 d.vn) ∧ W'.cell? ⟨nb, 7, none⟩ = some (.string d.s)))) (by kernel_rfl) ?_ (fun hHeld => ?_)
                (exact pax_drew HT2.out)
                (refine wpAnyH_take (i := 0) (v := ?_) rfl (by kernel_rfl) (by kernel_rfl) (by kernel_rfl) (fun _ _ _ h => h) (Or.inl ⟨by kernel_rfl, ?_⟩) (by assumption) ?_; rotate_left; · (intro w hSw; (try dsimp only at hSw); go_simp; first | done | with_reducible rfl))
                (try simp only [Act.put]); (try simp only [List.getElem_toArray]); (try simp only [List.getElem_cons_succ]); (try simp only [List.getElem_cons_zero]); (try simp only [List.setIfInBounds_toArray]); (try simp only [List.set_cons_succ]); (try simp only [List.set_cons_zero])
                (refine wpAnyH_take (i := 1) (v := ?_) rfl (by kernel_rfl) (by kernel_rfl) (by kernel_rfl) (fun _ _ _ h => h) (Or.inl ⟨by kernel_rfl, ?_⟩) (by assumption) ?_; rotate_left; · (intro w hSw; (try dsimp only at hSw); go_simp; first | done | with_reducible rfl))
                (try simp only [Act.put]); (try simp only [List.getElem_toArray]); (try simp only [List.getElem_cons_succ]); (try simp only [List.getElem_cons_zero]); (try simp only [List.setIfInBounds_toArray]); (try simp only [List.set_cons_succ]); (try simp only [List.set_cons_zero])
                (refine wpAnyH_take (i := 2) (v := ?_) rfl (by kernel_rfl) (by kernel_rfl) (by kernel_rfl) (fun _ _ _ h => h) (Or.inl ⟨by kernel_rfl, ?_⟩) (by assumption) ?_; rotate_left; · (intro w hSw; (try dsimp only at hSw); go_simp; first | done | with_reducible rfl))
                (try simp only [Act.put]); (try simp only [List.getElem_toArray]); (try simp only [List.getElem_cons_succ]); (try simp only [List.getElem_cons_zero]); (try simp only [List.setIfInBounds_toArray]); (try simp only [List.set_cons_succ]); (try simp only [List.set_cons_zero])
                (refine wpAnyH_take (i := 3) (v := ?_) rfl (by kernel_rfl) (by kernel_rfl) (by kernel_rfl) (fun _ _ _ h => h) (Or.inl ⟨by kernel_rfl, ?_⟩) (by assumption) ?_; rotate_left; · (intro w hSw; (try dsimp only at hSw); go_simp; first | done | with_reducible rfl))
                (try simp only [Act.put]); (try simp only [List.getElem_toArray]); (try simp only [List.getElem_cons_succ]); (try simp only [List.getElem_cons_zero]); (try simp only [List.setIfInBounds_toArray]); (try simp only [List.set_cons_succ]); (try simp only [List.set_cons_zero])
                (refine wpAnyH_take (i := 4) (v := ?_) rfl (by kernel_rfl) (by kernel_rfl) (by kernel_rfl) (fun _ _ _ h => h) (Or.inl ⟨by kernel_rfl, ?_⟩) (by assumption) ?_; rotate_left; · (intro w hSw; (try dsimp only at hSw); go_simp; first | done | with_reducible rfl))
                (try simp only [Act.put]); (try simp only [List.getElem_toArray]); (try simp only [List.getElem_cons_succ]); (try simp only [List.getElem_cons_zero]); (try simp only [List.setIfInBounds_toArray]); (try simp only [List.set_cons_succ]); (try simp only [List.set_cons_zero])
                (refine wpAnyH_take (i := 5) (v := ?_) rfl (by kernel_rfl) (by kernel_rfl) (by kernel_rfl) (fun _ _ _ h => h) (Or.inl ⟨by kernel_rfl, ?_⟩) (by assumption) ?_; rotate_left; · (intro w hSw; (try dsimp only at hSw); go_simp; first | done | with_reducible rfl))
                (try simp only [Act.put]); (try simp only [List.getElem_toArray]); (try simp only [List.getElem_cons_succ]); (try simp only [List.getElem_cons_zero]); (try simp only [List.setIfInBounds_toArray]); (try simp only [List.set_cons_succ]); (try simp only [List.set_cons_zero])
                (refine wpAnyH_take (i := 6) (v := ?_) rfl (by kernel_rfl) (by kernel_rfl) (by kernel_rfl) (fun _ _ _ h => h) (Or.inl ⟨by kernel_rfl, ?_⟩) (by assumption) ?_; rotate_left; · (intro w hSw; (try dsimp only at hSw); go_simp; first | done | with_reducible rfl))
                (try simp only [Act.put]); (try simp only [List.getElem_toArray]); (try simp only [List.getElem_cons_succ]); (try simp only [List.getElem_cons_zero]); (try simp only [List.setIfInBounds_toArray]); (try simp only [List.set_cons_succ]); (try simp only [List.set_cons_zero])
                (refine wpAnyH_take (i := 7) (v := ?_) rfl (by kernel_rfl) (by kernel_rfl) (by kernel_rfl) (fun _ _ _ h => h) (Or.inl ⟨by kernel_rfl, ?_⟩) (by assumption) ?_; rotate_left; · (intro w hSw; (try dsimp only at hSw); go_simp; first | done | with_reducible rfl))
                (try simp only [Act.put]); (try simp only [List.getElem_toArray]); (try simp only [List.getElem_cons_succ]); (try simp only [List.getElem_cons_zero]); (try simp only [List.setIfInBounds_toArray]); (try simp only [List.set_cons_succ]); (try simp only [List.set_cons_zero])
                (refine wpAnyH_take (i := 8) (v := ?_) rfl (by kernel_rfl) (by kernel_rfl) (by kernel_rfl) (fun _ _ _ h => h) (Or.inl ⟨by kernel_rfl, ?_⟩) (by assumption) ?_; rotate_left; · (intro w hSw; (try dsimp only at hSw); go_simp; first | done | with_reducible rfl))
                (try simp only [Act.put]); (try simp only [List.getElem_toArray]); (try simp only [List.getElem_cons_succ]); (try simp only [List.getElem_cons_zero]); (try simp only [List.setIfInBounds_toArray]); (try simp only [List.set_cons_succ]); (try simp only [List.set_cons_zero])
                (refine wpAnyH_take (i := 9) (v := ?_) rfl (by kernel_rfl) (by kernel_rfl) (by kernel_rfl) (fun _ _ _ h => h) (Or.inl ⟨by kernel_rfl, ?_⟩) (by assumption) ?_; rotate_left; · (intro w hSw; (try dsimp only at hSw); go_simp; first | done | with_reducible rfl))
                (try simp only [Act.put]); (try simp only [List.getElem_toArray]); (try simp only [List.getElem_cons_succ]); (try simp only [List.getElem_cons_zero]); (try simp only [List.setIfInBounds_toArray]); (try simp only [List.set_cons_succ]); (try simp only [List.set_cons_zero])
                refine wpAnyH_done (by kernel_rfl) ?_ _
                have HI8 := hid (HI6.out.1.below hHeld.1.out.1)
                clear hHeld HT2
                clear x0 x1 x2 x3 x4 x5 x6 x7 y0 y1 y2 y3 y4 y5 y6 y7
                go_wp2
                go_roundw
                case rel => exact ⟨i + 1, _, by omega, by go_num, HI8.out, HI7.out.2.1, HI7.out.2.2⟩
                case measure => simp [intOf]; omega
            · obtain rfl : i = n := by omega
              have hE : MgO CT.cmp H [] := by
                have := HI.out.2.2
                rw [← HN7.out, List.drop_length] at this
                exact this
              have HNx := hid (next_mg wr HI.out.1.ms HI.out.2.1 hE HI.out.1.ms.2.1)
              clear hE
              go_upto_region 23 with (first | (go_at_call 51; refine HNx.out.mono ?_; rintro e w7 ⟨rfl, hS7, hM7, rfl⟩))
              have HI7 := hid (HI.out.1.mdl hM7 hS7)
              have HLf : Hid (∀ W, Below w7.heap.size w7 W → Calls Tryd.prog 53 #[.pointer (some ⟨mb, 0, none⟩)] W fun e w' => e = .returned (.int .i64 0) ∧ w' = W) := fun W hW => left_mg (HI7.out.ms.below hW)
              have HB7 : Hid (∀ W, Below w7.heap.size w7 W → Below w.heap.size w W) := fun W hW => HI7.out.be.trans (hW.mono HI7.out.be.size)
              clear hS7 hM7 HNx HI HI7
              go_wp2_with (first | (go_at_call 53; refine (HLf.out _ (below_new w7 _)).mono ?_; rintro e w8 ⟨rfl, rfl⟩))
              go_ret
              exact ⟨rfl, HB7.out _ (below_new w7 _)⟩
end Go.Proofs.YtdgkbpplngjonaaDoor
