/- The statement of layer 8: what is found is the first one of a block's cells that isn't ahead of a cell. Conditions: the arguments stand, their numbers are of 64 bits; the list is within the machine's reach; the tables of utf8 read as they are laid. -/
import Derived.Test.YtfcnobcpnhfgmaaDoorNR
import Derived.Test.YtfcnobcpnhfgmaaDoorKFa
namespace Go.Proofs.YtfcnobcpnhfgmaaDoor
open Go.RowKit

/-- Where the law is: sorted cells, their block's bytes, and the cell that is looked for. -/
structure Fi8 (w W : World) (vs : Value) (s : List CT) (vb : Value) (c : CT) : Prop where
  bel : Below w.heap.size w W
  cl : ClA W vs s
  row : Row W w.heap.size vb (blockB s)
  dw : DW W w.heap.size c
theorem Fi8.below {w W W' : World} {vs vb : Value} {s : List CT} {c : CT} (h : Fi8 w W vs s vb c) (hb : Below W.heap.size W W') : Fi8 w W' vs s vb c :=
  ⟨h.bel.trans (hb.mono h.bel.size), h.cl.below hb, h.row.keep hb h.row.block_lt, h.dw.below hb⟩

theorem findL_cons (x : CT) (t : List CT) (d : CT) : findL (x :: t) d = if 0 ≤ CT.cmp x d then some x else findL t d := by
  unfold findL
  rw [List.find?_cons]
  by_cases h : 0 ≤ CT.cmp x d
  · rw [if_pos h, decide_eq_true h]
  · rw [if_neg h, decide_eq_false h]
theorem findL_drop {s : List CT} {i : Nat} {x d : CT} (h : s[i]? = some x) : findL (s.drop i) d = if 0 ≤ CT.cmp x d then some x else findL (s.drop (i + 1)) d := by
  obtain ⟨hi, hx⟩ := List.getElem?_eq_some_iff.1 h
  rw [List.drop_eq_getElem_cons hi, hx, findL_cons]

set_option maxHeartbeats 16000000 in
set_option maxRecDepth 100000 in
theorem blockfinds_any (v : Value) (l : List CT) (d : CT) (w : World) (h : ClA w v l) (hlen : l.length ≤ 1466015503658) (hv : ∀ c ∈ l, inI c.vn) (hvd : inI d.vn) (hL : LaidU w) :
    Calls Tryd.prog 5 #[v, d.v] w fun e w' => e = .returned (.bool true) ∧ Below w.heap.size w w' := by
  have mixed : Tryd.prog.follows .mixedOrders = true := by kernel_rfl
  have HA := hid fun W (hb : Below w.heap.size w W) => alive8_any W (hL.below hb)
  have HCp : Hid (∀ W, Below w.heap.size w W → Calls Tryd.prog 18 #[v] W fun e w' => ∃ v', e = .returned v' ∧ CRow w' W.heap.size v' l ∧ Below W.heap.size W w') := fun W hb => copycells_any v l hlen W (h.below hb)
  have HLg : Hid (∀ W v', ClA W v' (l ++ [d]) → Calls Tryd.prog 10 #[v'] W fun e w' => e = .returned (.bool (longM 100 (l ++ [d]))) ∧ Below W.heap.size W w') := fun W v' h => long8_any v' (l ++ [d]) W h
  have HLen := hid hlen
  cases hg : longM 100 (l ++ [d]) with
  | true =>
    rw [hg] at HLg
    clear h hv hL hg hlen
    go_enter Tryd.func5, Tryd.ntmps5
    go_upto_region 3 with (go_at_call 9; refine (HA.out _ (below_new _ _)).mono ?_; rintro e w5 ⟨rfl, hb5⟩)
    have HB5 : Hid (Below w.heap.size w w5) := (below_new w _).trans (hb5.mono (by simp))
    have HD5 : Hid (DW w5 w.heap.size d) := DW.below (Blk.new w _ _) hb5
    have HG5 : Hid (w.heap.size < w5.heap.size) := by have := hb5.size; simp at this; exact this
    clear hb5
    obtain ⟨x0, x1, x2, x3, x4, x5, x6, x7⟩ := DW.words HD5.out
    have HBd : Hid (Below w.heap.size w w5.drew) := HB5.out.drew
    have HDd : Hid (DW w5.drew w.heap.size d) := DW.below HD5.out (Below.refl _ _).drew
    have HBa : Hid (∀ t, Below w.heap.size w (w5.drew.alloc (.cells #[.string d.r, .string d.f, .string d.q, .int .i64 d.t, .int .i64 d.k, .int .i64 d.vk, .int .i64 d.vn, .string d.s] t))) := fun t => HBd.out.trans ((below_new _ _).mono (by show w.heap.size ≤ w5.heap.size; exact Nat.le_of_lt HG5.out))
    have HDa : Hid (∀ t, DW (w5.drew.alloc (.cells #[.string d.r, .string d.f, .string d.q, .int .i64 d.t, .int .i64 d.k, .int .i64 d.vk, .int .i64 d.vn, .string d.s] t)) w.heap.size d) := fun t => DW.below HDd.out (below_new _ _)
    have HDn : Hid (DW (w5.drew.alloc (.cells #[.string d.r, .string d.f, .string d.q, .int .i64 d.t, .int .i64 d.k, .int .i64 d.vk, .int .i64 d.vn, .string d.s] 40)) w5.drew.heap.size d) := Blk.new w5.drew 40 d.e.toArray
    obtain ⟨y0, y1, y2, y3, y4, y5, y6, y7⟩ := DW.words HDd.out
    (first | (go_region_law (first
      | (go_simp; go_at_call 18; refine (HCp.out _ ?_).mono ?_; (first | exact HBd.out | exact HBa.out _); rintro e w6 ⟨v6, rfl, hr6, hb6⟩; have hd6 : DW w6 w.heap.size d := (by first | exact DW.below HDd.out hb6 | exact DW.below (HDa.out _) hb6); have HD6 := hid hd6; obtain ⟨z0, z1, z2, z3, z4, z5, z6, z7⟩ := DW.words hd6; have HB6 : Hid (Below w.heap.size w w6 ∧ w5.heap.size ≤ w6.heap.size) := (by first | exact ⟨HBd.out.trans (hb6.mono HBd.out.size), hb6.size⟩ | exact ⟨(HBa.out _).trans (hb6.mono (HBa.out _).size), Nat.le_trans (by simp) hb6.size⟩); have HZ6 : Hid (Below w5.heap.size w5 w6) := (by first | exact (Below.refl _ w5).drew.trans hb6 | exact (Below.refl _ w5).drew.trans ((below_new w5.drew _).trans (hb6.mono (by simp)))); have HR6 : Hid (CRow w6 w5.heap.size v6 l) := (by first | exact hr6 | exact hr6.le (by simp)); clear hd6)
      | (refine step_append_cell rfl (.tmp 14) (.tmp 16) rfl _ w5.heap.size v6 l rfl ?_ _ 1 rfl d ?_ HLen.out ?_ ?_; (first | exact HR6.out | exact World.ownsRow.alloc HR6.out _); (first | exact ct_dw (Blk.new w6 40 d.e.toArray) | exact ct_dw (DW.below HDn.out hb6)); (have := HB6.out.2; simp; omega); intro v7 w7 hr7 hb7; have HD7 : Hid (DW w7 w.heap.size d) := (by first | exact DW.keep HD6.out hb7 HG5.out | exact DW.keep (DW.below HD6.out (below_new _ _)) hb7 HG5.out); have HB7 : Hid (Below w.heap.size w w7) := (by first | exact HB6.out.1.trans (hb7.mono (Nat.le_of_lt HG5.out)) | exact (HB6.out.1.trans ((below_new _ _).mono HB6.out.1.size)).trans (hb7.mono (Nat.le_of_lt HG5.out))); have HZ7 : Hid (Below w5.heap.size w5 w7) := (by first | exact HZ6.out.trans hb7 | exact (HZ6.out.trans ((below_new _ _).mono HZ6.out.size)).trans hb7); have HC7 := hid hr7.cla; obtain ⟨t0, t1, t2, t3, t4, t5, t6, t7⟩ := DW.words HD7.out)
      | (go_simp; go_at_call 10; refine (HLg.out _ _ ?_).mono ?_; exact HC7.out; rintro e w8 ⟨rfl, hb8⟩; have HD8 := hid (DW.below HD7.out hb8); have HB8 := hid (HB7.out.trans (hb8.mono HB7.out.size)); obtain ⟨r0, r1, r2, r3, r4, r5, r6, r7⟩ := DW.words HD8.out))) | fail)
    all_goals (go_wp2; go_ret; exact ⟨rfl, HB8.out⟩)
  | false =>
    rw [hg] at HLg
    obtain ⟨hl2, hsm⟩ := longM_sm hg (fun c hc => by rcases List.mem_append.1 hc with q | q; exact hv c q; exact (List.mem_singleton.1 q) ▸ hvd)
    have hds : Sm d := hsm d (by simp)
    have hs : ∀ c ∈ l, Sm c := fun c hc => hsm c (by simp [hc])
    have hl : l.length ≤ 100 := by rw [List.length_append] at hl2; omega
    have HSo : Hid (∀ W, Below w.heap.size w W → Calls Tryd.prog 11 #[v] W fun e w' => ∃ As cs, e = .returned (.slice As (sortL [] l).length cs) ∧ ClA w' (.slice As (sortL [] l).length cs) (sortL [] l) ∧ Below W.heap.size W w') := fun W hW => by
      refine (refsort_any v l W (h.below hW) hs (by omega)).mono fun e w' ⟨v', he, hr, hb⟩ => ?_
      obtain ⟨As, cs, rfl, _⟩ := hr.len
      exact ⟨As, cs, he, hr.cla, hb⟩
    have hSm := (sortL_i l [] sortI_nil hs).sm
    obtain ⟨hbc, hfine, hsl⟩ := sort_bc hs
    obtain ⟨s, hS⟩ : ∃ s, sortL [] l = s := ⟨_, rfl⟩
    rw [hS] at HSo hSm hbc hfine hsl
    obtain ⟨n, hns⟩ : ∃ n, s.length = n := ⟨_, rfl⟩
    rw [hns] at HSo
    have hnm : n ≤ 100 := by omega
    have HLn : Hid (s.length = n ∧ n ≤ 100) := ⟨hns, hnm⟩
    have HBu : Hid (∀ W v, Below w.heap.size w W → ClA W v s → DW W w.heap.size d → Calls Tryd.prog 12 #[v] W fun e w' => ∃ g nb cap, e = .returned (.tuple #[.slice (some ⟨g, 0, none⟩) nb cap, .bool true]) ∧ Fi8 w w' v s (.slice (some ⟨g, 0, none⟩) nb cap) d) := fun W u hW hu hd => by
      refine (build_sorted u s (by omega) W hu hSm hfine (hL.below hW)).mono fun e w' ⟨g, cap, nb, he, hh⟩ => ?_
      obtain ⟨h1, h2, h3⟩ := hh.out
      exact ⟨g, nb, cap, he, hW.trans (h3.mono hW.size), hu.below h3, h2.le hW.size, hd.below h3⟩
    obtain ⟨fx, hfx⟩ : ∃ fx, (findL s d).getD default = fx := ⟨_, rfl⟩
    obtain ⟨fb, hfb⟩ : ∃ fb, (findL s d).isSome = fb := ⟨_, rfl⟩
    have HFi : Hid (∀ (W : World) (u vs : Value), Fi8 w W vs s u d → Calls Tryd.prog 19 #[u, d.v] W fun e w' => e = .returned (.tuple #[fx.v, .bool fb]) ∧ Fi8 w w' vs s u d) := fun W u vs hh => by
      have := find_block u s d hbc hfine (by omega) (by have := block_len hbc (by omega); omega) W (row_sx hh.row) (hL.below hh.bel)
      rw [hfx, hfb] at this
      exact this.mono fun e w' ⟨he, hb⟩ => ⟨he, hh.below hb⟩
    have HOr : Hid (∀ x ∈ s, ∀ W, Calls Tryd.prog 20 #[x.v, d.v] W fun e w' => e = .returned (.int .i64 (CT.cmp x d)) ∧ Below W.heap.size W w') := fun x hx W => reforder_ct x d (hSm x hx) hds W
    have HFx := hid hfx
    have HFb := hid hfb
    clear h hv hL hg hlen hl2 hsm hds hs hl hSm hbc hfine hsl hS hns hfx hfb
    go_enter Tryd.func5, Tryd.ntmps5
    go_upto_region 3 with (go_at_call 9; refine (HA.out _ (below_new _ _)).mono ?_; rintro e w5 ⟨rfl, hb5⟩)
    have HB5 : Hid (Below w.heap.size w w5) := (below_new w _).trans (hb5.mono (by simp))
    have HD5 : Hid (DW w5 w.heap.size d) := DW.below (Blk.new w _ _) hb5
    have HG5 : Hid (w.heap.size < w5.heap.size) := by have := hb5.size; simp at this; exact this
    clear hb5
    obtain ⟨x0, x1, x2, x3, x4, x5, x6, x7⟩ := DW.words HD5.out
    have HBd : Hid (Below w.heap.size w w5.drew) := HB5.out.drew
    have HDd : Hid (DW w5.drew w.heap.size d) := DW.below HD5.out (Below.refl _ _).drew
    have HBa : Hid (∀ t, Below w.heap.size w (w5.drew.alloc (.cells #[.string d.r, .string d.f, .string d.q, .int .i64 d.t, .int .i64 d.k, .int .i64 d.vk, .int .i64 d.vn, .string d.s] t))) := fun t => HBd.out.trans ((below_new _ _).mono (by show w.heap.size ≤ w5.heap.size; exact Nat.le_of_lt HG5.out))
    have HDa : Hid (∀ t, DW (w5.drew.alloc (.cells #[.string d.r, .string d.f, .string d.q, .int .i64 d.t, .int .i64 d.k, .int .i64 d.vk, .int .i64 d.vn, .string d.s] t)) w.heap.size d) := fun t => DW.below HDd.out (below_new _ _)
    have HDn : Hid (DW (w5.drew.alloc (.cells #[.string d.r, .string d.f, .string d.q, .int .i64 d.t, .int .i64 d.k, .int .i64 d.vk, .int .i64 d.vn, .string d.s] 40)) w5.drew.heap.size d) := Blk.new w5.drew 40 d.e.toArray
    obtain ⟨y0, y1, y2, y3, y4, y5, y6, y7⟩ := DW.words HDd.out
    (first | (go_region_law (first
      | (go_simp; go_at_call 18; refine (HCp.out _ ?_).mono ?_; (first | exact HBd.out | exact HBa.out _); rintro e w6 ⟨v6, rfl, hr6, hb6⟩; have hd6 : DW w6 w.heap.size d := (by first | exact DW.below HDd.out hb6 | exact DW.below (HDa.out _) hb6); have HD6 := hid hd6; obtain ⟨z0, z1, z2, z3, z4, z5, z6, z7⟩ := DW.words hd6; have HB6 : Hid (Below w.heap.size w w6 ∧ w5.heap.size ≤ w6.heap.size) := (by first | exact ⟨HBd.out.trans (hb6.mono HBd.out.size), hb6.size⟩ | exact ⟨(HBa.out _).trans (hb6.mono (HBa.out _).size), Nat.le_trans (by simp) hb6.size⟩); have HZ6 : Hid (Below w5.heap.size w5 w6) := (by first | exact (Below.refl _ w5).drew.trans hb6 | exact (Below.refl _ w5).drew.trans ((below_new w5.drew _).trans (hb6.mono (by simp)))); have HR6 : Hid (CRow w6 w5.heap.size v6 l) := (by first | exact hr6 | exact hr6.le (by simp)); clear hd6)
      | (refine step_append_cell rfl (.tmp 14) (.tmp 16) rfl _ w5.heap.size v6 l rfl ?_ _ 1 rfl d ?_ HLen.out ?_ ?_; (first | exact HR6.out | exact World.ownsRow.alloc HR6.out _); (first | exact ct_dw (Blk.new w6 40 d.e.toArray) | exact ct_dw (DW.below HDn.out hb6)); (have := HB6.out.2; simp; omega); intro v7 w7 hr7 hb7; have HD7 : Hid (DW w7 w.heap.size d) := (by first | exact DW.keep HD6.out hb7 HG5.out | exact DW.keep (DW.below HD6.out (below_new _ _)) hb7 HG5.out); have HB7 : Hid (Below w.heap.size w w7) := (by first | exact HB6.out.1.trans (hb7.mono (Nat.le_of_lt HG5.out)) | exact (HB6.out.1.trans ((below_new _ _).mono HB6.out.1.size)).trans (hb7.mono (Nat.le_of_lt HG5.out))); have HZ7 : Hid (Below w5.heap.size w5 w7) := (by first | exact HZ6.out.trans hb7 | exact (HZ6.out.trans ((below_new _ _).mono HZ6.out.size)).trans hb7); have HC7 := hid hr7.cla; obtain ⟨t0, t1, t2, t3, t4, t5, t6, t7⟩ := DW.words HD7.out)
      | (go_simp; go_at_call 10; refine (HLg.out _ _ ?_).mono ?_; exact HC7.out; rintro e w8 ⟨rfl, hb8⟩; have HD8 := hid (DW.below HD7.out hb8); have HB8 := hid (HB7.out.trans (hb8.mono HB7.out.size)); obtain ⟨r0, r1, r2, r3, r4, r5, r6, r7⟩ := DW.words HD8.out))) | fail)
    all_goals (
      have HB8 := HB8
      have HD8 := HD8
      clear HBd HDd HBa HDa HDn HB5 HD5 HG5 HB6 HD6 HB7 HD7 HC7 HR6 HZ6 HZ7 x0 x1 x2 x3 x4 x5 x6 x7 y0 y1 y2 y3 y4 y5 y6 y7 z0 z1 z2 z3 z4 z5 z6 z7 t0 t1 t2 t3 t4 t5 t6 t7 r0 r1 r2 r3 r4 r5 r6 r7 hb8
      go_upto_region 9 with (first
        | (go_at_call 11; refine (HSo.out _ HB8.out).mono ?_; rintro e w1 ⟨As, cs, rfl, hc1, hb1⟩; have HB1 := hid (HB8.out.trans (hb1.mono HB8.out.size)); have HC1 := hid hc1; have HD1 := hid (DW.below HD8.out hb1); clear hc1 hb1)
        | (go_at_call 12; refine (HBu.out _ _ HB1.out HC1.out HD1.out).mono ?_; rintro e w2 ⟨g, nb, cap, rfl, h2⟩; have HK := hid h2; clear h2))
      obtain ⟨u0, u1, u2, u3, u4, u5, u6, u7⟩ := DW.words HK.out.dw
      go_upto_region 10 with (first
        | (go_at_call 19; refine (HFi.out _ _ _ HK.out).mono ?_; rintro e w3 ⟨rfl, h3⟩; have HK3 := hid h3; clear h3))
      have hx0 := below_new w3 (.cells #[.string fx.r, .string fx.f, .string fx.q, .int .i64 fx.t, .int .i64 fx.k, .int .i64 fx.vk, .int .i64 fx.vn, .string fx.s] 40)
      refine wp_ltc (fun W => Hid (Below w.heap.size w W ∧ ClA W (.slice As n cs) s ∧ DW W w.heap.size d ∧ DW W w3.heap.size fx ∧ w.heap.size < W.heap.size ∧ w3.heap.size < W.heap.size)) ⟨HK3.out.bel.trans (hx0.mono HK3.out.bel.size), HK3.out.cl.below hx0, DW.below HK3.out.dw hx0, Blk.new w3 _ _, Blk.lt (DW.below HK3.out.dw hx0), by simp⟩ (fun W0 HW0 => ?_)
      clear hx0 HK HK3 u0 u1 u2 u3 u4 u5 u6 u7 HA HCp HLg HLen HSo HBu HFi HB1 HC1 HD1 HB8 HD8
      go_wp2
      go_loopw [10] (fun vi wr => ∃ i : Nat, i ≤ n ∧ vi = .int .i64 i ∧ Hid (Below W0.heap.size W0 wr) ∧ Hid (findL s d = findL (s.drop i) d)) (fun vi _ => n - (intOf vi).toNat)
      case atStart => exact ⟨0, Nat.zero_le _, rfl, Below.refl _ _, rfl⟩
      case round =>
        obtain ⟨i, hi, rfl, HB, HN⟩ := hrel
        have HBw : Hid (Below w.heap.size w wr) := HW0.out.1.trans (HB.out.mono HW0.out.1.size)
        by_cases hlt : i < n
        · have hltz : (i : Int) < (n : Int) := by omega
          have hin : i < s.length := by rw [HLn.out.1]; exact hlt
          have hsz := HB.out.size
          obtain ⟨_, _, ea, hcl1, hcl2, hhc⟩ := HW0.out.2.1
          injection ea with ea1 ea2 ea3
          subst ea1 ea3
          obtain ⟨b, off, rfl, hhd⟩ := hhc (by omega)
          have hbw : b < W0.heap.size := hhd.lt (by omega)
          obtain ⟨x, hx⟩ : ∃ x, s[i]? = some x := ⟨_, List.getElem?_eq_getElem hin⟩
          have HT : Hid (PaX wr b (off + i * 8) w.heap.size 0 x d wr) := by
            obtain ⟨d0, d1, d2, d3, d4, d5, d6, d7⟩ := DW.words (DW.below HW0.out.2.2.1 HB.out)
            exact ⟨hid ⟨Below.refl _ _, by omega, by have := HW0.out.2.2.2.2.1; omega⟩, ct_words (hhd.below HB.out hbw) i hx, d0, d1, d2, d3, d4, d5, d6, d7⟩
          have HOx := hid (HOr.out x (List.mem_of_getElem? hx))
          have HX := hid hx
          clear hhc hhd hcl1 hcl2 ea2 hin
          obtain ⟨-, ⟨x0, x1, x2, x3, x4, x5, x6, x7⟩, ⟨y0, y1, y2, y3, y4, y5, y6, y7⟩⟩ := HT.out
          obtain ⟨o, ho⟩ : ∃ o, CT.cmp x d = o := ⟨_, rfl⟩
          rw [ho] at HOx
          have HO := hid ho
          clear ho hx
          by_cases ho : 0 ≤ o
          · have hF : findL s d = some x := by rw [HN.out, findL_drop HX.out, if_pos (by rw [HO.out]; exact ho)]
            obtain rfl : x = fx := by rw [← HFx.out, hF]; rfl
            obtain rfl : fb = true := by rw [← HFb.out, hF]; rfl
            clear hF HN HX HO
            go_upto_region 13 with (fail)
            go_region_held3 (fun W' => Hid (Below wr.heap.size wr W' ∧ b < wr.heap.size ∧ w.heap.size < wr.heap.size) ∧ (W'.cell? ⟨b, off + i * 8, none⟩ = some (.string x.r) ∧ W'.cell? ⟨b, off + i * 8 + 1, none⟩ = some (.string x.f) ∧ W'.cell? ⟨b, off + i * 8 + 2, none⟩ = some (.string x.q) ∧ W'.cell? ⟨b, off + i * 8 + 3, none⟩ = some (.int .i64 x.t) ∧ W'.cell? ⟨b, off + i * 8 + 4, none⟩ = some (.int .i64 x.k) ∧ W'.cell? ⟨b, off + i * 8 + 5, none⟩ = some (.int .i64 x.vk) ∧ W'.cell? ⟨b, off + i * 8 + 6, none⟩ = some (.int .i64 x.vn) ∧ W'.cell? ⟨b, off + i * 8 + 7, none⟩ = some (.string x.s)) ∧ (W'.cell? ⟨w.heap.size, 0, none⟩ = some (.string d.r) ∧ W'.cell? ⟨w.heap.size, 1, none⟩ = some (.string d.f) ∧ W'.cell? ⟨w.heap.size, 2, none⟩ = some (.string d.q) ∧ W'.cell? ⟨w.heap.size, 3, none⟩ = some (.int .i64 d.t) ∧ W'.cell? ⟨w.heap.size, 4, none⟩ = some (.int .i64 d.k) ∧ W'.cell? ⟨w.heap.size, 5, none⟩ = some (.int .i64 d.vk) ∧ W'.cell? ⟨w.heap.size, 6, none⟩ = some (.int .i64 d.vn) ∧ W'.cell? ⟨w.heap.size, 7, none⟩ = some (.string d.s)))
              (first | exact HT.out | exact pax_drew HT.out | exact pax_call (by assumption) hb3 | exact pax_drew (by assumption) | assumption)
              (first | (go_at_call 20; refine (HOx.out _).mono ?_; rintro e w9 ⟨rfl, hb3⟩))
            rename_i hLast
            have HZ := hid hLast.1.out.1
            have HT2 : Hid (PaX wr b (off + i * 8) w3.heap.size 0 x x _) := hid ⟨hid ⟨HZ.out, hLast.1.out.2.1, by have := HW0.out.2.2.2.2.2; omega⟩, hLast.2.1, DW.words (DW.below (DW.below HW0.out.2.2.2.1 HB.out) HZ.out)⟩
            clear HT x0 x1 x2 x3 x4 x5 x6 x7 y0 y1 y2 y3 y4 y5 y6 y7 hLast
            obtain ⟨-, ⟨x0, x1, x2, x3, x4, x5, x6, x7⟩, ⟨y0, y1, y2, y3, y4, y5, y6, y7⟩⟩ := HT2.out
            go_upto_region 14 with (fail)
            go_region_held3 (fun W' => Hid (Below wr.heap.size wr W' ∧ b < wr.heap.size ∧ w3.heap.size < wr.heap.size) ∧ (W'.cell? ⟨b, off + i * 8, none⟩ = some (.string x.r) ∧ W'.cell? ⟨b, off + i * 8 + 1, none⟩ = some (.string x.f) ∧ W'.cell? ⟨b, off + i * 8 + 2, none⟩ = some (.string x.q) ∧ W'.cell? ⟨b, off + i * 8 + 3, none⟩ = some (.int .i64 x.t) ∧ W'.cell? ⟨b, off + i * 8 + 4, none⟩ = some (.int .i64 x.k) ∧ W'.cell? ⟨b, off + i * 8 + 5, none⟩ = some (.int .i64 x.vk) ∧ W'.cell? ⟨b, off + i * 8 + 6, none⟩ = some (.int .i64 x.vn) ∧ W'.cell? ⟨b, off + i * 8 + 7, none⟩ = some (.string x.s)) ∧ (W'.cell? ⟨w3.heap.size, 0, none⟩ = some (.string x.r) ∧ W'.cell? ⟨w3.heap.size, 1, none⟩ = some (.string x.f) ∧ W'.cell? ⟨w3.heap.size, 2, none⟩ = some (.string x.q) ∧ W'.cell? ⟨w3.heap.size, 3, none⟩ = some (.int .i64 x.t) ∧ W'.cell? ⟨w3.heap.size, 4, none⟩ = some (.int .i64 x.k) ∧ W'.cell? ⟨w3.heap.size, 5, none⟩ = some (.int .i64 x.vk) ∧ W'.cell? ⟨w3.heap.size, 6, none⟩ = some (.int .i64 x.vn) ∧ W'.cell? ⟨w3.heap.size, 7, none⟩ = some (.string x.s)))
              (first | exact HT2.out | exact pax_drew HT2.out | exact pax_drew (by assumption) | assumption)
              (fail)
            rename_i hLast
            have HZ2 := hid hLast.1.out.1
            clear HT2 hLast x0 x1 x2 x3 x4 x5 x6 x7 y0 y1 y2 y3 y4 y5 y6 y7
            go_wp2
            go_ret
            exact ⟨rfl, HBw.out.trans (HZ2.out.mono HBw.out.size)⟩
          · have HN2 : Hid (findL s d = findL (s.drop (i + 1)) d) := by
              have := HN.out
              rw [findL_drop HX.out, if_neg (by rw [HO.out]; exact ho)] at this
              exact this
            clear HN HX HO
            go_upto_region 13 with (fail)
            go_region_held3 (fun W' => Hid (Below wr.heap.size wr W' ∧ b < wr.heap.size ∧ w.heap.size < wr.heap.size) ∧ (W'.cell? ⟨b, off + i * 8, none⟩ = some (.string x.r) ∧ W'.cell? ⟨b, off + i * 8 + 1, none⟩ = some (.string x.f) ∧ W'.cell? ⟨b, off + i * 8 + 2, none⟩ = some (.string x.q) ∧ W'.cell? ⟨b, off + i * 8 + 3, none⟩ = some (.int .i64 x.t) ∧ W'.cell? ⟨b, off + i * 8 + 4, none⟩ = some (.int .i64 x.k) ∧ W'.cell? ⟨b, off + i * 8 + 5, none⟩ = some (.int .i64 x.vk) ∧ W'.cell? ⟨b, off + i * 8 + 6, none⟩ = some (.int .i64 x.vn) ∧ W'.cell? ⟨b, off + i * 8 + 7, none⟩ = some (.string x.s)) ∧ (W'.cell? ⟨w.heap.size, 0, none⟩ = some (.string d.r) ∧ W'.cell? ⟨w.heap.size, 1, none⟩ = some (.string d.f) ∧ W'.cell? ⟨w.heap.size, 2, none⟩ = some (.string d.q) ∧ W'.cell? ⟨w.heap.size, 3, none⟩ = some (.int .i64 d.t) ∧ W'.cell? ⟨w.heap.size, 4, none⟩ = some (.int .i64 d.k) ∧ W'.cell? ⟨w.heap.size, 5, none⟩ = some (.int .i64 d.vk) ∧ W'.cell? ⟨w.heap.size, 6, none⟩ = some (.int .i64 d.vn) ∧ W'.cell? ⟨w.heap.size, 7, none⟩ = some (.string d.s)))
              (first | exact HT.out | exact pax_drew HT.out | exact pax_call (by assumption) hb3 | exact pax_drew (by assumption) | assumption)
              (first | (go_at_call 20; refine (HOx.out _).mono ?_; rintro e w9 ⟨rfl, hb3⟩))
            rename_i hLast
            have HZ := hid hLast.1.out.1
            clear HT x0 x1 x2 x3 x4 x5 x6 x7 y0 y1 y2 y3 y4 y5 y6 y7 hLast
            have HB3 := hid (HB.out.trans (HZ.out.mono HB.out.size))
            go_wp2
            go_roundw
            case rel => exact ⟨i + 1, by omega, by go_num, HB3.out, HN2.out⟩
            case measure => simp [intOf]; omega
        · obtain rfl : i = n := by omega
          obtain rfl : fb = false := by
            rw [← HFb.out, HN.out, List.drop_of_length_le (by rw [HLn.out.1]; exact Nat.le_refl _)]
            rfl
          clear HN
          go_wp2
          go_ret
          exact ⟨rfl, HBw.out⟩)
end Go.Proofs.YtfcnobcpnhfgmaaDoor
