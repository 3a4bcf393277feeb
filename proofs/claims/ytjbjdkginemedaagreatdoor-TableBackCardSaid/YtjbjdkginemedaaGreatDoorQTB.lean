/- Several texts in one: UJ PTBac. Conditions: as each theorem names them. -/
import Derived.Test.YtjbjdkginemedaaGreatDoorUJa
import Derived.Test.YtjbjdkginemedaaGreatDoorQP
import Derived.Test.YtjbjdkginemedaaGreatDoorQT8
/- The statement of layer 9: a table's cells come back; a row's are those among them; from a place on, those behind it. Conditions: the arguments stand, their numbers are of 64 bits; the list is within the machine's reach; the tables of utf8 read as they are laid. -/
namespace Go.Proofs.YtjbjdkginemedaaGreatDoor
open Go.RowKit

set_option maxHeartbeats 16000000 in
set_option maxRecDepth 100000 in
theorem tableback_long (v : Value) (l : List CT) (d : CT) (row : ByteArray) (most : Int) (w : World) (h : ClA w v l) (hlen : l.length ≤ 1466015503658) (hg : longM 120 (l ++ [d]) = true) (hL : LaidU w) :
    Calls Tryz.prog 6 #[v, d.v, .string row, .int .i64 most] w fun e w' => e = .returned (.bool true) ∧ Below w.heap.size w w' := by
  have mixed : Tryz.prog.follows .mixedOrders = true := by kernel_rfl
  have HA := hid fun W (hb : Below w.heap.size w W) => alive9_any W (hL.below hb)
  have HCp : Hid (∀ W, Below w.heap.size w W → Calls Tryz.prog 11 #[v] W fun e w' => ∃ v', e = .returned v' ∧ CRow w' W.heap.size v' l ∧ Below W.heap.size W w') := fun W hb => copycells_any v l hlen W (h.below hb)
  have HLen := hid hlen
  have HLg : Hid (∀ W v', ClA W v' (l ++ [d]) → Calls Tryz.prog 23 #[v'] W fun e w' => e = .returned (.bool true) ∧ Below W.heap.size W w') := fun W v' h => by rw [← hg]; exact long9_any v' (l ++ [d]) W h
  clear h hL hg hlen
  go_enter Tryz.func6, Tryz.ntmps6
  go_upto_region 3 with (go_at_call 22; refine (HA.out _ (below_new _ _)).mono ?_; rintro e w5 ⟨rfl, hb5⟩)
  have HB5 : Hid (Below w.heap.size w w5) := (below_new w _).trans (hb5.mono (by simp))
  have HD5 : Hid (DW w5 w.heap.size d) := DW.below (Blk.new w _ _) hb5
  have HG5 : Hid (w.heap.size < w5.heap.size) := by have := hb5.size; simp at this; exact this
  clear hb5
  obtain ⟨x0, x1, x2, x3, x4, x5, x6, x7⟩ := DW.words HD5.out
  have HBd : Hid (Below w.heap.size w w5.drew) := HB5.out.drew
  have HDd : Hid (DW w5.drew w.heap.size d) := DW.below HD5.out (Below.refl _ _).drew
  have HBa : Hid (∀ t, Below w.heap.size w (w5.drew.alloc (.cells #[.string d.r, .string d.f, .string d.q, .int .i64 d.t, .int .i64 d.k, .int .i64 d.vk, .int .i64 d.vn, .string d.s] t))) := fun t => HBd.out.trans ((below_new _ _).mono (by show w.heap.size ≤ w5.heap.size; exact Nat.le_of_lt HG5.out))
  have HDa : Hid (∀ t, DW (w5.drew.alloc (.cells #[.string d.r, .string d.f, .string d.q, .int .i64 d.t, .int .i64 d.k, .int .i64 d.vk, .int .i64 d.vn, .string d.s] t)) w.heap.size d) := fun t => DW.below HDd.out (below_new _ _)
  have HDn : Hid (DW (w5.drew.alloc (.cells #[.string d.r, .string d.f, .string d.q, .int .i64 d.t, .int .i64 d.k, .int .i64 d.vk, .int .i64 d.vn, .string d.s] 26)) w5.drew.heap.size d) := Blk.new w5.drew 26 d.e.toArray
  obtain ⟨y0, y1, y2, y3, y4, y5, y6, y7⟩ := DW.words HDd.out
  (first | (go_region_law (first
    | (go_simp; go_at_call 11; refine (HCp.out _ ?_).mono ?_; (first | exact HBd.out | exact HBa.out _); rintro e w6 ⟨v6, rfl, hr6, hb6⟩; have hd6 : DW w6 w.heap.size d := (by first | exact DW.below HDd.out hb6 | exact DW.below (HDa.out _) hb6); have HD6 := hid hd6; obtain ⟨z0, z1, z2, z3, z4, z5, z6, z7⟩ := DW.words hd6; have HB6 : Hid (Below w.heap.size w w6 ∧ w5.heap.size ≤ w6.heap.size) := (by first | exact ⟨HBd.out.trans (hb6.mono HBd.out.size), hb6.size⟩ | exact ⟨(HBa.out _).trans (hb6.mono (HBa.out _).size), Nat.le_trans (by simp) hb6.size⟩); have HZ6 : Hid (Below w5.heap.size w5 w6) := (by first | exact (Below.refl _ w5).drew.trans hb6 | exact (Below.refl _ w5).drew.trans ((below_new w5.drew _).trans (hb6.mono (by simp)))); have HR6 : Hid (CRow w6 w5.heap.size v6 l) := (by first | exact hr6 | exact hr6.le (by simp)); clear hd6)
    | (refine step_append_cell rfl (.tmp 24) (.tmp 26) rfl _ w5.heap.size v6 l rfl ?_ _ 1 rfl d ?_ HLen.out ?_ ?_; (first | exact HR6.out | exact World.ownsRow.alloc HR6.out _); (first | exact ct_dw (Blk.new w6 26 d.e.toArray) | exact ct_dw (DW.below HDn.out hb6)); (have := HB6.out.2; simp; omega); intro v7 w7 hr7 hb7; have HD7 : Hid (DW w7 w.heap.size d) := (by first | exact DW.keep HD6.out hb7 HG5.out | exact DW.keep (DW.below HD6.out (below_new _ _)) hb7 HG5.out); have HB7 : Hid (Below w.heap.size w w7) := (by first | exact HB6.out.1.trans (hb7.mono (Nat.le_of_lt HG5.out)) | exact (HB6.out.1.trans ((below_new _ _).mono HB6.out.1.size)).trans (hb7.mono (Nat.le_of_lt HG5.out))); have HZ7 : Hid (Below w5.heap.size w5 w7) := (by first | exact HZ6.out.trans hb7 | exact (HZ6.out.trans ((below_new _ _).mono HZ6.out.size)).trans hb7); have HC7 := hid hr7.cla; obtain ⟨t0, t1, t2, t3, t4, t5, t6, t7⟩ := DW.words HD7.out)
    | (go_simp; go_at_call 23; refine (HLg.out _ _ ?_).mono ?_; exact HC7.out; rintro e w8 ⟨rfl, hb8⟩; have HD8 := hid (DW.below HD7.out hb8); have HB8 := hid (HB7.out.trans (hb8.mono HB7.out.size)); obtain ⟨r0, r1, r2, r3, r4, r5, r6, r7⟩ := DW.words HD8.out))) | fail)
  all_goals (go_wp2; go_ret; exact ⟨rfl, HB8.out⟩)
set_option maxHeartbeats 16000000 in
set_option maxRecDepth 100000 in
theorem tableback_row (v : Value) (l : List CT) (d : CT) (row : ByteArray) (most : Int) (hm : 100 < row.size) (w : World) (h : ClA w v l) (hlen : l.length ≤ 1466015503658) (hg : longM 120 (l ++ [d]) = false) (hL : LaidU w) :
    Calls Tryz.prog 6 #[v, d.v, .string row, .int .i64 most] w fun e w' => e = .returned (.bool true) ∧ Below w.heap.size w w' := by
  have mixed : Tryz.prog.follows .mixedOrders = true := by kernel_rfl
  have HA := hid fun W (hb : Below w.heap.size w W) => alive9_any W (hL.below hb)
  have HCp : Hid (∀ W, Below w.heap.size w W → Calls Tryz.prog 11 #[v] W fun e w' => ∃ v', e = .returned v' ∧ CRow w' W.heap.size v' l ∧ Below W.heap.size W w') := fun W hb => copycells_any v l hlen W (h.below hb)
  have HLen := hid hlen
  have HLg : Hid (∀ W v', ClA W v' (l ++ [d]) → Calls Tryz.prog 23 #[v'] W fun e w' => e = .returned (.bool false) ∧ Below W.heap.size W w') := fun W v' h => by rw [← hg]; exact long9_any v' (l ++ [d]) W h
  obtain ⟨rs, hrs⟩ : ∃ rs, row.size = rs := ⟨_, rfl⟩
  have hz1 : (100 : Int) < (rs : Int) := by omega
  clear h hL hg hlen hm
  go_enter Tryz.func6, Tryz.ntmps6
  go_upto_region 3 with (go_at_call 22; refine (HA.out _ (below_new _ _)).mono ?_; rintro e w5 ⟨rfl, hb5⟩)
  have HB5 : Hid (Below w.heap.size w w5) := (below_new w _).trans (hb5.mono (by simp))
  have HD5 : Hid (DW w5 w.heap.size d) := DW.below (Blk.new w _ _) hb5
  have HG5 : Hid (w.heap.size < w5.heap.size) := by have := hb5.size; simp at this; exact this
  clear hb5
  obtain ⟨x0, x1, x2, x3, x4, x5, x6, x7⟩ := DW.words HD5.out
  have HBd : Hid (Below w.heap.size w w5.drew) := HB5.out.drew
  have HDd : Hid (DW w5.drew w.heap.size d) := DW.below HD5.out (Below.refl _ _).drew
  have HBa : Hid (∀ t, Below w.heap.size w (w5.drew.alloc (.cells #[.string d.r, .string d.f, .string d.q, .int .i64 d.t, .int .i64 d.k, .int .i64 d.vk, .int .i64 d.vn, .string d.s] t))) := fun t => HBd.out.trans ((below_new _ _).mono (by show w.heap.size ≤ w5.heap.size; exact Nat.le_of_lt HG5.out))
  have HDa : Hid (∀ t, DW (w5.drew.alloc (.cells #[.string d.r, .string d.f, .string d.q, .int .i64 d.t, .int .i64 d.k, .int .i64 d.vk, .int .i64 d.vn, .string d.s] t)) w.heap.size d) := fun t => DW.below HDd.out (below_new _ _)
  have HDn : Hid (DW (w5.drew.alloc (.cells #[.string d.r, .string d.f, .string d.q, .int .i64 d.t, .int .i64 d.k, .int .i64 d.vk, .int .i64 d.vn, .string d.s] 26)) w5.drew.heap.size d) := Blk.new w5.drew 26 d.e.toArray
  obtain ⟨y0, y1, y2, y3, y4, y5, y6, y7⟩ := DW.words HDd.out
  (first | (go_region_law (first
    | (go_simp; go_at_call 11; refine (HCp.out _ ?_).mono ?_; (first | exact HBd.out | exact HBa.out _); rintro e w6 ⟨v6, rfl, hr6, hb6⟩; have hd6 : DW w6 w.heap.size d := (by first | exact DW.below HDd.out hb6 | exact DW.below (HDa.out _) hb6); have HD6 := hid hd6; obtain ⟨z0, z1, z2, z3, z4, z5, z6, z7⟩ := DW.words hd6; have HB6 : Hid (Below w.heap.size w w6 ∧ w5.heap.size ≤ w6.heap.size) := (by first | exact ⟨HBd.out.trans (hb6.mono HBd.out.size), hb6.size⟩ | exact ⟨(HBa.out _).trans (hb6.mono (HBa.out _).size), Nat.le_trans (by simp) hb6.size⟩); have HZ6 : Hid (Below w5.heap.size w5 w6) := (by first | exact (Below.refl _ w5).drew.trans hb6 | exact (Below.refl _ w5).drew.trans ((below_new w5.drew _).trans (hb6.mono (by simp)))); have HR6 : Hid (CRow w6 w5.heap.size v6 l) := (by first | exact hr6 | exact hr6.le (by simp)); clear hd6)
    | (refine step_append_cell rfl (.tmp 24) (.tmp 26) rfl _ w5.heap.size v6 l rfl ?_ _ 1 rfl d ?_ HLen.out ?_ ?_; (first | exact HR6.out | exact World.ownsRow.alloc HR6.out _); (first | exact ct_dw (Blk.new w6 26 d.e.toArray) | exact ct_dw (DW.below HDn.out hb6)); (have := HB6.out.2; simp; omega); intro v7 w7 hr7 hb7; have HD7 : Hid (DW w7 w.heap.size d) := (by first | exact DW.keep HD6.out hb7 HG5.out | exact DW.keep (DW.below HD6.out (below_new _ _)) hb7 HG5.out); have HB7 : Hid (Below w.heap.size w w7) := (by first | exact HB6.out.1.trans (hb7.mono (Nat.le_of_lt HG5.out)) | exact (HB6.out.1.trans ((below_new _ _).mono HB6.out.1.size)).trans (hb7.mono (Nat.le_of_lt HG5.out))); have HZ7 : Hid (Below w5.heap.size w5 w7) := (by first | exact HZ6.out.trans hb7 | exact (HZ6.out.trans ((below_new _ _).mono HZ6.out.size)).trans hb7); have HC7 := hid hr7.cla; obtain ⟨t0, t1, t2, t3, t4, t5, t6, t7⟩ := DW.words HD7.out)
    | (go_simp; go_at_call 23; refine (HLg.out _ _ ?_).mono ?_; exact HC7.out; rintro e w8 ⟨rfl, hb8⟩; have HD8 := hid (DW.below HD7.out hb8); have HB8 := hid (HB7.out.trans (hb8.mono HB7.out.size)); obtain ⟨r0, r1, r2, r3, r4, r5, r6, r7⟩ := DW.words HD8.out))) | fail)
  all_goals (go_wp2; go_ret; exact ⟨rfl, HB8.out⟩)
set_option maxHeartbeats 64000000 in
set_option maxRecDepth 100000 in
theorem tableback_in (v : Value) (l : List CT) (d : CT) (row : ByteArray) (most : Int) (hm : row.size ≤ 100) (w : World) (h : ClA w v l) (hlen : l.length ≤ 1466015503658) (hl : l.length ≤ 120) (hs : ∀ c ∈ l, Sm c) (hds : Sm d) (hg : longM 120 (l ++ [d]) = false) (hL : LaidU w) :
    Calls Tryz.prog 6 #[v, d.v, .string row, .int .i64 most] w fun e w' => e = .returned (.bool true) ∧ Below w.heap.size w w' := by
  have mixed : Tryz.prog.follows .mixedOrders = true := by kernel_rfl
  have HA := hid fun W (hb : Below w.heap.size w W) => alive9_any W (hL.below hb)
  have HCp : Hid (∀ W, Below w.heap.size w W → Calls Tryz.prog 11 #[v] W fun e w' => ∃ v', e = .returned v' ∧ CRow w' W.heap.size v' l ∧ Below W.heap.size W w') := fun W hb => copycells_any v l hlen W (h.below hb)
  have HLen := hid hlen
  have HLg : Hid (∀ W v', ClA W v' (l ++ [d]) → Calls Tryz.prog 23 #[v'] W fun e w' => e = .returned (.bool false) ∧ Below W.heap.size W w') := fun W v' h => by rw [← hg]; exact long9_any v' (l ++ [d]) W h
  have HSo : Hid (∀ W, Below w.heap.size w W → Calls Tryz.prog 29 #[v] W fun e w' => ∃ As ns cs, e = .returned (.slice As ns cs) ∧ Hid (ns = (sortL [] l).length ∧ ClA w' (.slice As ns cs) (sortL [] l) ∧ Below W.heap.size W w')) := fun W hW => by
    refine (refsort_any v l W (h.below hW) hs (by omega)).mono fun e w' ⟨v', he, hr, hb⟩ => ?_
    obtain ⟨As, cs, rfl, _⟩ := hr.len
    exact ⟨As, _, cs, he, rfl, hr.cla, hb⟩
  have hSm := (sortL_i l [] sortI_nil hs).sm
  obtain ⟨hbc, hfine, hsl⟩ := sort_bc hs
  obtain ⟨s, hS⟩ : ∃ s, sortL [] l = s := ⟨_, rfl⟩
  rw [hS] at HSo hSm hbc hfine hsl
  obtain ⟨hpt, hflat⟩ := pt9_of (s := s) (by omega) hbc hfine
  obtain ⟨ps, hps⟩ : ∃ ps, cutL 256 s = ps := ⟨_, rfl⟩
  rw [hps] at hpt hflat
  have HBu : Hid (∀ W v, Below w.heap.size w W → ClA W v s → Calls Tryz.prog 24 #[v] W fun e w' => ∃ A nb cap, e = .returned (.tuple #[.slice A nb cap, .bool true]) ∧ Hid (SlA w' (.slice A nb cap) (tabB ps) ∧ Below W.heap.size W w')) := fun W u hW hu => by
    refine (tbuild_any u s (by omega) W hu hSm (hL.below hW)).mono fun e w' ⟨hb, hx⟩ => ?_
    unfold TbEnd at hx
    rw [if_pos hfine, hps] at hx
    obtain ⟨v', he, hr⟩ := hx
    obtain ⟨A, c, rfl, _⟩ := id hr.sla
    exact ⟨A, _, c, he, hr.sla, hb⟩
  have HOp : Hid (∀ W v, Below w.heap.size w W → SlA W v (tabB ps) → Calls Tryz.prog 26 #[v] W fun e w' => ∃ t vb vi u, e = .returned (.tuple #[.pointer (some ⟨t, 0, none⟩), .int .i64 0]) ∧ Hid (Tb9 W w' t vb vi ps u 0)) := fun W v hW hs =>
    topen_any v ps hpt.cut hpt.bc hpt.n hpt.ix hpt.pl W hs (hL.below hW)
  obtain ⟨n, hn⟩ : ∃ n, s.length = n := ⟨_, rfl⟩
  obtain ⟨F, hF⟩ : ∃ F : CT → Bool, (fun x => decide (0 ≤ CT.cmp x d)) = F := ⟨_, rfl⟩
  have HCe : Hid (∀ W wb t vb vi u, Below w.heap.size w wb → Tb9 wb W t vb vi ps u 0 → Calls Tryz.prog 30 #[.pointer (some ⟨t, 0, none⟩)] W fun e w' => ∃ A n c, e = .returned (.tuple #[.slice A n c, .int .i64 0]) ∧ Hid (ClA w' (.slice A n c) s ∧ ∃ k, k < 500 ∧ Tb9 wb w' t vb vi ps u k)) := fun W wb t vb vi u hW h => by
    refine (cells9 h hpt (by omega) (hL.below hW)).mono fun e w' ⟨v, e1, e2, e3⟩ => ?_
    rw [hflat] at e2
    obtain ⟨A, c, rfl, _⟩ := e2.len
    exact ⟨A, _, c, e1, e2.cla, _, by have := hpt.n; omega, e3⟩
  have HRo : Hid (∀ W wb t vb vi u k, Below w.heap.size w wb → k < 500 → Tb9 wb W t vb vi ps u k → Calls Tryz.prog 32 #[.pointer (some ⟨t, 0, none⟩), .string row] W fun e w' => ∃ A n c, e = .returned (.tuple #[.slice A n c, .int .i64 0]) ∧ Hid (But W.heap.size t W w' ∧ CRow w' W.heap.size (.slice A n c) (s.filter (rowF row)) ∧ ∃ k, k < 1000 ∧ Tb9 wb w' t vb vi ps u k)) := fun W wb t vb vi u k hW hk h => by
    refine (row9b h hpt (by omega) (hL.below hW) row (by omega)).mono fun e w' ⟨v, m1, m2, e1, e2, e3, e6, e4, e5⟩ => ?_
    obtain ⟨r1, r2, _, r4⟩ := row_res hpt.cut row.data.toList rfl e2 e3
    rw [hflat] at e4
    obtain ⟨A, c, rfl, _⟩ := e4.len
    exact ⟨A, _, c, e1, e6, e4, _, by have := hpt.n; omega, e5⟩
  have HFr : Hid (∀ W wb t vb vi u k, Below w.heap.size w wb → k < 1000 → Tb9 wb W t vb vi ps u k → Calls Tryz.prog 33 #[.pointer (some ⟨t, 0, none⟩), d.v, .int .i64 most] W fun e w' => ∃ A n c, e = .returned (.tuple #[.slice A n c, .int .i64 0]) ∧ Hid (But W.heap.size t W w' ∧ ClA w' (.slice A n c) (gathIn F most s []) ∧ Below w.heap.size w w' ∧ t < W.heap.size)) := fun W wb t vb vi u k hW hk h => by
    refine (from9b h hpt (by omega) (hL.below hW) most d).mono fun e w' ⟨v, m, e1, e2, e6, e4, e5⟩ => ?_
    obtain ⟨r1, _⟩ := from_res hpt.cut d most rfl e2
    rw [r1, hflat, hF] at e4
    obtain ⟨A, c, rfl, _⟩ := e4.len
    exact ⟨A, _, c, e1, e6, e4.cla, hW.trans (e5.bel.mono hW.size), h.blk.lt⟩
  have HSa : Hid (∀ (W : World) (v1 v2 : Value) (l1 : List CT), ClA W v1 l1 → ClA W v2 l1 → Calls Tryz.prog 19 #[v1, v2] W fun e w' => e = .returned (.bool true) ∧ Below W.heap.size W w') := fun W v1 v2 l1 h1 h2 => (samecells_any v1 v2 l1 l1 W h1 h2).mono fun e w' ⟨he, hb⟩ => ⟨by rw [he, decide_eq_true rfl], hb⟩
  have HOr : Hid (∀ x ∈ s, ∀ W, Calls Tryz.prog 31 #[x.v, d.v] W fun e w' => e = .returned (.int .i64 (CT.cmp x d)) ∧ Below W.heap.size W w') := fun x hx W => reforder_ct x d (hSm x hx) hds W
  have HFd : Hid (∀ x, F x = decide (0 ≤ CT.cmp x d)) := fun x => by rw [← hF]
  have HN : Hid (s.length = n ∧ n ≤ 120) := ⟨hn, by omega⟩
  obtain ⟨rs, hrs⟩ : ∃ rs, row.size = rs := ⟨_, rfl⟩
  have hz1 : ¬ (100 : Int) < (rs : Int) := by omega
  rw [hn] at HSo
  clear h hL hg hlen hl hs hSm hbc hfine hsl hpt hflat hps hds hm hF hn
  go_enter Tryz.func6, Tryz.ntmps6
  go_upto_region 3 with (go_at_call 22; refine (HA.out _ (below_new _ _)).mono ?_; rintro e w5 ⟨rfl, hb5⟩)
  rename_i K3 a3 K0 a0
  suffices HEND : Hid (∀ (w8 : World) (t24 t25 t26 t27 : Value), Below w.heap.size w w8 → DW w8 w.heap.size d → K3 { tmps := List.toArray (v :: d.v :: .string row :: .int .i64 most :: undef :: .pointer (some ⟨w.heap.size, 0, none⟩) :: undef :: undef :: .bool false :: undef :: undef :: undef :: undef :: undef :: undef :: undef :: undef :: undef :: undef :: undef :: undef :: .bool true :: .bool false :: v :: t24 :: t25 :: t26 :: t27 :: .bool false :: .bool false :: .string row :: .int .i64 (rs : Int) :: .bool (decide ((100 : Int) < (rs : Int))) :: .bool (decide ((100 : Int) < (rs : Int))) :: undef :: undef :: undef :: undef :: undef :: undef :: undef :: undef :: undef :: undef :: undef :: undef :: undef :: undef :: undef :: undef :: undef :: undef :: undef :: undef :: undef :: undef :: undef :: undef :: undef :: undef :: undef :: undef :: undef :: undef :: undef :: undef :: undef :: undef :: undef :: undef :: undef :: undef :: undef :: undef :: undef :: undef :: undef :: undef :: undef :: undef :: undef :: undef :: undef :: undef :: undef :: undef :: undef :: undef :: undef :: undef :: undef :: undef :: undef :: undef :: undef :: undef :: undef :: undef :: undef :: undef :: undef :: undef :: undef :: undef :: undef :: undef :: undef :: undef :: undef :: undef :: undef :: undef :: undef :: undef :: undef :: undef :: undef :: undef :: undef :: undef :: undef :: undef :: undef :: undef :: undef :: undef :: undef :: undef :: undef :: undef :: undef :: undef :: undef :: undef :: undef :: undef :: undef :: undef :: undef :: undef :: []), defers := [] } w8) by
    clear a3
    have HB5 : Hid (Below w.heap.size w w5) := (below_new w _).trans (hb5.mono (by simp))
    have HD5 : Hid (DW w5 w.heap.size d) := DW.below (Blk.new w _ _) hb5
    have HG5 : Hid (w.heap.size < w5.heap.size) := by have := hb5.size; simp at this; exact this
    clear hb5
    obtain ⟨x0, x1, x2, x3, x4, x5, x6, x7⟩ := DW.words HD5.out
    have HBd : Hid (Below w.heap.size w w5.drew) := HB5.out.drew
    have HDd : Hid (DW w5.drew w.heap.size d) := DW.below HD5.out (Below.refl _ _).drew
    have HBa : Hid (∀ t, Below w.heap.size w (w5.drew.alloc (.cells #[.string d.r, .string d.f, .string d.q, .int .i64 d.t, .int .i64 d.k, .int .i64 d.vk, .int .i64 d.vn, .string d.s] t))) := fun t => HBd.out.trans ((below_new _ _).mono (by show w.heap.size ≤ w5.heap.size; exact Nat.le_of_lt HG5.out))
    have HDa : Hid (∀ t, DW (w5.drew.alloc (.cells #[.string d.r, .string d.f, .string d.q, .int .i64 d.t, .int .i64 d.k, .int .i64 d.vk, .int .i64 d.vn, .string d.s] t)) w.heap.size d) := fun t => DW.below HDd.out (below_new _ _)
    have HDn : Hid (DW (w5.drew.alloc (.cells #[.string d.r, .string d.f, .string d.q, .int .i64 d.t, .int .i64 d.k, .int .i64 d.vk, .int .i64 d.vn, .string d.s] 26)) w5.drew.heap.size d) := Blk.new w5.drew 26 d.e.toArray
    obtain ⟨y0, y1, y2, y3, y4, y5, y6, y7⟩ := DW.words HDd.out
    (first | (go_region_law (first
      | (go_simp; go_at_call 11; refine (HCp.out _ ?_).mono ?_; (first | exact HBd.out | exact HBa.out _); rintro e w6 ⟨v6, rfl, hr6, hb6⟩; have hd6 : DW w6 w.heap.size d := (by first | exact DW.below HDd.out hb6 | exact DW.below (HDa.out _) hb6); have HD6 := hid hd6; obtain ⟨z0, z1, z2, z3, z4, z5, z6, z7⟩ := DW.words hd6; have HB6 : Hid (Below w.heap.size w w6 ∧ w5.heap.size ≤ w6.heap.size) := (by first | exact ⟨HBd.out.trans (hb6.mono HBd.out.size), hb6.size⟩ | exact ⟨(HBa.out _).trans (hb6.mono (HBa.out _).size), Nat.le_trans (by simp) hb6.size⟩); have HZ6 : Hid (Below w5.heap.size w5 w6) := (by first | exact (Below.refl _ w5).drew.trans hb6 | exact (Below.refl _ w5).drew.trans ((below_new w5.drew _).trans (hb6.mono (by simp)))); have HR6 : Hid (CRow w6 w5.heap.size v6 l) := (by first | exact hr6 | exact hr6.le (by simp)); clear hd6)
      | (refine step_append_cell rfl (.tmp 24) (.tmp 26) rfl _ w5.heap.size v6 l rfl ?_ _ 1 rfl d ?_ HLen.out ?_ ?_; (first | exact HR6.out | exact World.ownsRow.alloc HR6.out _); (first | exact ct_dw (Blk.new w6 26 d.e.toArray) | exact ct_dw (DW.below HDn.out hb6)); (have := HB6.out.2; simp; omega); intro v7 w7 hr7 hb7; have HD7 : Hid (DW w7 w.heap.size d) := (by first | exact DW.keep HD6.out hb7 HG5.out | exact DW.keep (DW.below HD6.out (below_new _ _)) hb7 HG5.out); have HB7 : Hid (Below w.heap.size w w7) := (by first | exact HB6.out.1.trans (hb7.mono (Nat.le_of_lt HG5.out)) | exact (HB6.out.1.trans ((below_new _ _).mono HB6.out.1.size)).trans (hb7.mono (Nat.le_of_lt HG5.out))); have HZ7 : Hid (Below w5.heap.size w5 w7) := (by first | exact HZ6.out.trans hb7 | exact (HZ6.out.trans ((below_new _ _).mono HZ6.out.size)).trans hb7); have HC7 := hid hr7.cla; obtain ⟨t0, t1, t2, t3, t4, t5, t6, t7⟩ := DW.words HD7.out)
      | (go_simp; go_at_call 23; refine (HLg.out _ _ ?_).mono ?_; exact HC7.out; rintro e w8 ⟨rfl, hb8⟩; have HD8 := hid (DW.below HD7.out hb8); have HB8 := hid (HB7.out.trans (hb8.mono HB7.out.size)); obtain ⟨r0, r1, r2, r3, r4, r5, r6, r7⟩ := DW.words HD8.out))) | fail)
    all_goals (go_wp2; exact HEND.out _ _ _ _ _ HB8.out HD8.out)
  intro w8 t24 t25 t26 t27 hB8 hD8
  have HB8 := hid hB8
  have HD8 := hid hD8
  clear hB8 hD8 hb5
  go_upto_region 10 with (first
    | (go_at_call 29; refine (HSo.out _ HB8.out).mono ?_; rintro e w1 ⟨As, ns, cs, rfl, h1⟩; obtain rfl : n = ns := h1.out.1.symm; have HB1 := hid (HB8.out.trans (h1.out.2.2.mono HB8.out.size)); have HC1 := hid h1.out.2.1; have HD1 := hid (DW.below HD8.out h1.out.2.2); clear h1)
    | (go_at_call 24; refine (HBu.out _ _ HB1.out HC1.out).mono ?_; rintro e w2 ⟨A2, n2, c2, rfl, h2⟩; have HB2 := hid (HB1.out.trans (h2.out.2.mono HB1.out.size)); have HS2 := hid h2.out.1; have HC2 := hid (HC1.out.below h2.out.2); have HD2 := hid (DW.below HD1.out h2.out.2); clear h2)
    | (go_at_call 26; have hq := HOp.out _ _ HB2.out HS2.out; refine hq.mono ?_; clear hq; rintro e w3 ⟨t, vb, vi, u, rfl, h3⟩; have HT3 := hid h3.out; clear h3))
  go_upto_region 13 with (first
    | (go_at_call 30; have hq := HCe.out _ _ _ _ _ _ HB2.out HT3.out; refine hq.mono ?_; clear hq; rintro e w4 ⟨A4, n4, c4, rfl, h4⟩; have HC4 := hid h4.out.1; have HT4 := hid h4.out.2; clear h4)
    | (go_at_call 19; have hq := HSa.out _ _ _ s HC4.out (HC2.out.below (by obtain ⟨k, _, hT⟩ := HT4.out; exact hT.bel)); refine hq.mono ?_; clear hq; rintro e w5 ⟨rfl, hb5⟩; have HT5 : Hid (∃ k, k < 500 ∧ Tb9 w2 w5 t vb vi ps u k) := (by obtain ⟨k, hk, hT⟩ := HT4.out; exact ⟨k, hk, hT.below hb5⟩); clear hb5))
  refine wp_ltc (fun W0 => Hid (∃ k, k < 500 ∧ Tb9 w2 W0 t vb vi ps u k)) HT5.out (fun W0 H0 => ?_)
  have HC0 : Hid (ClA W0 (.slice As n cs) s) := by obtain ⟨k, _, hT⟩ := H0.out; exact HC2.out.below hT.bel
  have HDW : Hid (DW W0 w.heap.size d) := by obtain ⟨k, _, hT⟩ := H0.out; exact DW.below HD2.out hT.bel
  have HDl : Hid (w.heap.size < W0.heap.size) := Blk.lt HDW.out
  have HSt := hid (Two9.start W0)
  have H0t := H0
  clear HT5 HC4 HT4 HT3 HC1 HD1 HB1 HB8 HD8 HS2 HC2 HSo HBu HOp HCe HA HCp HLg HLen
  go_wp2_with (fail)
  go_loopw [15, 16, 17] (fun vr vb9 vi9 wr => ∃ (i n1 n2 : Nat) (A1 A2 : Option Addr) (c1 c2 : Nat) (l1 l2 : List CT), i ≤ n ∧ vi9 = .int .i64 i ∧ vr = .slice A1 n1 c1 ∧ vb9 = .slice A2 n2 c2 ∧ Hid (l1.length = n1 ∧ l2.length = n2 ∧ l1 = (s.take i).filter (rowF row) ∧ l2 = gathIn F most (s.take i) [] ∧ Two9 W0.heap.size W0 wr (.slice A1 n1 c1) (.slice A2 n2 c2) l1 l2)) (fun _ _ vi9 _ => n - (intOf vi9).toNat)
  case atStart => exact ⟨0, 0, 0, _, _, 0, 0, [], [], Nat.zero_le _, rfl, rfl, rfl, rfl, rfl, rfl, rfl, HSt.out⟩
  case round =>
    clear HSt
    obtain ⟨i, n1, n2, A1, A2, c1, c2, l1, l2, hi, rfl, rfl, rfl, HI⟩ := hrel
    have hnl : n ≤ 120 := HN.out.2
    by_cases hlt : i < n
    · have hltz : (i : Int) < (n : Int) := by omega
      have hin : i < s.length := by rw [HN.out.1]; exact hlt
      obtain ⟨_, _, ea, hcl1, hcl2, hhc⟩ := HC0.out
      injection ea with ea1 ea2 ea3
      subst ea1 ea3
      obtain ⟨b, off, rfl, hhd⟩ := hhc (by omega)
      have hbw : b < W0.heap.size := hhd.lt (by omega)
      obtain ⟨x, hx⟩ : ∃ x, s[i]? = some x := ⟨_, List.getElem?_eq_getElem hin⟩
      have HTk : Hid (s.take (i + 1) = s.take i ++ [x]) := by show _ = _; rw [List.take_add_one, hx]; rfl
      have HL1 : Hid (l1.length ≤ 120) := by
        have h1 := List.length_filter_le (rowF row) (s.take i)
        have := HN.out
        show _ ≤ _
        rw [HI.out.2.2.1]
        rw [List.length_take] at h1
        omega
      have HL2 : Hid (l2.length ≤ 120) := by
        have h1 := gathIn_len F most (s.take i) []
        have := HN.out
        show _ ≤ _
        rw [HI.out.2.2.2.1]
        rw [List.length_take, List.length_nil] at h1
        omega
      have HOx := hid (HOr.out x (List.mem_of_getElem? hx))
      have HX := hid hx
      have HHd := hid hhd
      obtain ⟨x0, x1, x2, x3, x4, x5, x6, x7⟩ := ct_words (hhd.below HI.out.2.2.2.2.bel hbw) i hx
      obtain ⟨y0, y1, y2, y3, y4, y5, y6, y7⟩ := DW.words (DW.keep HDW.out HI.out.2.2.2.2.bel HDl.out)
      obtain ⟨o, ho⟩ : ∃ o, CT.cmp x d = o := ⟨_, rfl⟩
      rw [ho] at HOx
      have HO := hid ho
      clear ho hx hhc hcl1 hcl2 ea2 hin
      have hhd := HHd.out
      by_cases hrow : x.r.data.toList = row.data.toList
      · by_cases ho : 0 ≤ o
        · by_cases hmn : (n2 : Int) < most
          · have HRm : Hid ((s.take (i + 1)).filter (rowF row) = (s.take i).filter (rowF row) ++ [x]) := by
              show _ = _
              rw [HTk.out, List.filter_append]
              have : rowF row x = true := by unfold rowF; exact decide_eq_true hrow
              rw [List.filter_cons_of_pos this]; rfl
            have hrq : (x.r.toList == row.toList) = true := by rw [rowF_is]; unfold rowF; exact decide_eq_true hrow
            obtain ⟨n7, hn7⟩ : ∃ n7, (l1 ++ [x]).length = n7 := ⟨_, rfl⟩
            have HN7 := hid hn7
            clear hrow hn7
            go_upto_region 20 with (at_builtin; refine wpList_append_cell_at rfl (.tmp 84) (.tmp 89) rfl _ W0.heap.size (.slice A1 n1 c1) l1 rfl (HI.out.2.2.2.2.r1.below (below_new _ _)) _ 1 rfl x (ct_new x _ _) (by have := HL1.out; omega) (by have := HI.out.2.2.2.2.siz; simp; omega) ?_; intro v7 w7 h7 hg7 hd7; have HJ7 := hid ((HI.out.2.2.2.2.below (below_new _ _)).more h7 hg7 hd7); obtain ⟨A7, c7, e7, _⟩ := h7.len; rw [HN7.out] at e7; subst e7; clear h7 hg7 hd7)
            clear x0 x1 x2 x3 x4 x5 x6 x7 y0 y1 y2 y3 y4 y5 y6 y7 hrq
            obtain ⟨Wc, hWc⟩ : ∃ Wc, Wc = w7 := ⟨_, rfl⟩
            rw [← hWc] at HJ7 ⊢
            clear hWc
            have HB7 := hid HJ7.out.bel
            have HX7 := hid (ct_words (hhd.below HB7.out hbw) i HX.out)
            have HY7 := hid (DW.words (DW.keep HDW.out HB7.out HDl.out))
            obtain ⟨x0, x1, x2, x3, x4, x5, x6, x7⟩ := HX7.out
            obtain ⟨y0, y1, y2, y3, y4, y5, y6, y7⟩ := HY7.out
            have HT : Hid (PaX Wc b (off + i * 8) w.heap.size 0 x d Wc) := ⟨hid ⟨Below.refl _ _, Nat.lt_of_lt_of_le hbw HJ7.out.siz, Nat.lt_of_lt_of_le HDl.out HJ7.out.siz⟩, HX7.out, HY7.out⟩
            go_region_held3 (fun W' => Hid (Below Wc.heap.size Wc W' ∧ b < Wc.heap.size ∧ w.heap.size < Wc.heap.size) ∧ (W'.cell? ⟨b, off + i * 8, none⟩ = some (.string x.r) ∧ W'.cell? ⟨b, off + i * 8 + 1, none⟩ = some (.string x.f) ∧ W'.cell? ⟨b, off + i * 8 + 2, none⟩ = some (.string x.q) ∧ W'.cell? ⟨b, off + i * 8 + 3, none⟩ = some (.int .i64 x.t) ∧ W'.cell? ⟨b, off + i * 8 + 4, none⟩ = some (.int .i64 x.k) ∧ W'.cell? ⟨b, off + i * 8 + 5, none⟩ = some (.int .i64 x.vk) ∧ W'.cell? ⟨b, off + i * 8 + 6, none⟩ = some (.int .i64 x.vn) ∧ W'.cell? ⟨b, off + i * 8 + 7, none⟩ = some (.string x.s)) ∧ (W'.cell? ⟨w.heap.size, 0, none⟩ = some (.string d.r) ∧ W'.cell? ⟨w.heap.size, 1, none⟩ = some (.string d.f) ∧ W'.cell? ⟨w.heap.size, 2, none⟩ = some (.string d.q) ∧ W'.cell? ⟨w.heap.size, 3, none⟩ = some (.int .i64 d.t) ∧ W'.cell? ⟨w.heap.size, 4, none⟩ = some (.int .i64 d.k) ∧ W'.cell? ⟨w.heap.size, 5, none⟩ = some (.int .i64 d.vk) ∧ W'.cell? ⟨w.heap.size, 6, none⟩ = some (.int .i64 d.vn) ∧ W'.cell? ⟨w.heap.size, 7, none⟩ = some (.string d.s)))
              (first | exact HT.out | exact pax_drew HT.out | exact pax_call (by assumption) hb3 | exact pax_drew (by assumption) | assumption)
              (first | (go_at_call 31; refine (HOx.out _).mono ?_; rintro e w9 ⟨rfl, hb3⟩))
            rename_i hLast
            have HB9 := hid hLast.1.out.1
            clear HT x0 x1 x2 x3 x4 x5 x6 x7 y0 y1 y2 y3 y4 y5 y6 y7 HX7 HY7 hLast
            have HJ9 := hid (HJ7.out.below HB9.out)
            (
              have HGm : Hid (gathIn F most (s.take (i + 1)) [] = gathIn F most (s.take i) [] ++ [x]) := by
                show _ = _
                rw [HTk.out, gathIn_snoc, if_pos ⟨by rw [← HI.out.2.2.2.1, HI.out.2.1]; exact hmn, by rw [HFd.out, HO.out]; exact decide_eq_true ho⟩]
              obtain ⟨n10, hn10⟩ : ∃ n10, (l2 ++ [x]).length = n10 := ⟨_, rfl⟩
              have HN10 := hid hn10
              clear hn10
              obtain ⟨x0, x1, x2, x3, x4, x5, x6, x7⟩ := ct_words (hhd.below HJ9.out.bel hbw) i HX.out
              go_wp2_with (at_builtin; refine wpList_append_cell_at rfl (.tmp 104) (.tmp 109) rfl _ W0.heap.size (.slice A2 n2 c2) l2 rfl (HJ9.out.r2.below (below_new _ _)) _ 1 rfl x (ct_new x _ _) (by have := HL2.out; omega) (by have := HJ9.out.siz; simp; omega) ?_; intro v10 w10 h10 hg10 hd10; have HJ10 := hid ((HJ9.out.below (below_new _ _)).swap.more h10 hg10 hd10).swap; obtain ⟨A10, c10, e10, _⟩ := h10.len; rw [HN10.out] at e10; subst e10; clear h10 hg10 hd10)
              go_roundw
              case rel => exact ⟨i + 1, n7, n10, A7, A10, c7, c10, (l1 ++ [x]), l2 ++ [x], by omega, by go_num, rfl, rfl, HN7.out, HN10.out, by rw [HRm.out, HI.out.2.2.1], by rw [HGm.out, HI.out.2.2.2.1], HJ10.out⟩
              case measure => simp only [intOf]; omega)
          · have HRm : Hid ((s.take (i + 1)).filter (rowF row) = (s.take i).filter (rowF row) ++ [x]) := by
              show _ = _
              rw [HTk.out, List.filter_append]
              have : rowF row x = true := by unfold rowF; exact decide_eq_true hrow
              rw [List.filter_cons_of_pos this]; rfl
            have hrq : (x.r.toList == row.toList) = true := by rw [rowF_is]; unfold rowF; exact decide_eq_true hrow
            obtain ⟨n7, hn7⟩ : ∃ n7, (l1 ++ [x]).length = n7 := ⟨_, rfl⟩
            have HN7 := hid hn7
            clear hrow hn7
            go_upto_region 20 with (at_builtin; refine wpList_append_cell_at rfl (.tmp 84) (.tmp 89) rfl _ W0.heap.size (.slice A1 n1 c1) l1 rfl (HI.out.2.2.2.2.r1.below (below_new _ _)) _ 1 rfl x (ct_new x _ _) (by have := HL1.out; omega) (by have := HI.out.2.2.2.2.siz; simp; omega) ?_; intro v7 w7 h7 hg7 hd7; have HJ7 := hid ((HI.out.2.2.2.2.below (below_new _ _)).more h7 hg7 hd7); obtain ⟨A7, c7, e7, _⟩ := h7.len; rw [HN7.out] at e7; subst e7; clear h7 hg7 hd7)
            clear x0 x1 x2 x3 x4 x5 x6 x7 y0 y1 y2 y3 y4 y5 y6 y7 hrq
            obtain ⟨Wc, hWc⟩ : ∃ Wc, Wc = w7 := ⟨_, rfl⟩
            rw [← hWc] at HJ7 ⊢
            clear hWc
            have HB7 := hid HJ7.out.bel
            have HX7 := hid (ct_words (hhd.below HB7.out hbw) i HX.out)
            have HY7 := hid (DW.words (DW.keep HDW.out HB7.out HDl.out))
            obtain ⟨x0, x1, x2, x3, x4, x5, x6, x7⟩ := HX7.out
            obtain ⟨y0, y1, y2, y3, y4, y5, y6, y7⟩ := HY7.out
            have HT : Hid (PaX Wc b (off + i * 8) w.heap.size 0 x d Wc) := ⟨hid ⟨Below.refl _ _, Nat.lt_of_lt_of_le hbw HJ7.out.siz, Nat.lt_of_lt_of_le HDl.out HJ7.out.siz⟩, HX7.out, HY7.out⟩
            go_region_held3 (fun W' => Hid (Below Wc.heap.size Wc W' ∧ b < Wc.heap.size ∧ w.heap.size < Wc.heap.size) ∧ (W'.cell? ⟨b, off + i * 8, none⟩ = some (.string x.r) ∧ W'.cell? ⟨b, off + i * 8 + 1, none⟩ = some (.string x.f) ∧ W'.cell? ⟨b, off + i * 8 + 2, none⟩ = some (.string x.q) ∧ W'.cell? ⟨b, off + i * 8 + 3, none⟩ = some (.int .i64 x.t) ∧ W'.cell? ⟨b, off + i * 8 + 4, none⟩ = some (.int .i64 x.k) ∧ W'.cell? ⟨b, off + i * 8 + 5, none⟩ = some (.int .i64 x.vk) ∧ W'.cell? ⟨b, off + i * 8 + 6, none⟩ = some (.int .i64 x.vn) ∧ W'.cell? ⟨b, off + i * 8 + 7, none⟩ = some (.string x.s)) ∧ (W'.cell? ⟨w.heap.size, 0, none⟩ = some (.string d.r) ∧ W'.cell? ⟨w.heap.size, 1, none⟩ = some (.string d.f) ∧ W'.cell? ⟨w.heap.size, 2, none⟩ = some (.string d.q) ∧ W'.cell? ⟨w.heap.size, 3, none⟩ = some (.int .i64 d.t) ∧ W'.cell? ⟨w.heap.size, 4, none⟩ = some (.int .i64 d.k) ∧ W'.cell? ⟨w.heap.size, 5, none⟩ = some (.int .i64 d.vk) ∧ W'.cell? ⟨w.heap.size, 6, none⟩ = some (.int .i64 d.vn) ∧ W'.cell? ⟨w.heap.size, 7, none⟩ = some (.string d.s)))
              (first | exact HT.out | exact pax_drew HT.out | exact pax_call (by assumption) hb3 | exact pax_drew (by assumption) | assumption)
              (first | (go_at_call 31; refine (HOx.out _).mono ?_; rintro e w9 ⟨rfl, hb3⟩))
            rename_i hLast
            have HB9 := hid hLast.1.out.1
            clear HT x0 x1 x2 x3 x4 x5 x6 x7 y0 y1 y2 y3 y4 y5 y6 y7 HX7 HY7 hLast
            have HJ9 := hid (HJ7.out.below HB9.out)
            (
              have HGm : Hid (gathIn F most (s.take (i + 1)) [] = gathIn F most (s.take i) []) := by
                show _ = _
                rw [HTk.out, gathIn_snoc, if_neg (fun q => by rw [← HI.out.2.2.2.1, HI.out.2.1] at q; have := q.1; omega)]
              go_wp2_with (fail)
              go_roundw
              case rel => exact ⟨i + 1, n7, n2, A7, A2, c7, c2, (l1 ++ [x]), l2, by omega, by go_num, rfl, rfl, HN7.out, HI.out.2.1, by rw [HRm.out, HI.out.2.2.1], by rw [HGm.out, HI.out.2.2.2.1], HJ9.out⟩
              case measure => simp only [intOf]; omega)
        · have HRm : Hid ((s.take (i + 1)).filter (rowF row) = (s.take i).filter (rowF row) ++ [x]) := by
            show _ = _
            rw [HTk.out, List.filter_append]
            have : rowF row x = true := by unfold rowF; exact decide_eq_true hrow
            rw [List.filter_cons_of_pos this]; rfl
          have hrq : (x.r.toList == row.toList) = true := by rw [rowF_is]; unfold rowF; exact decide_eq_true hrow
          obtain ⟨n7, hn7⟩ : ∃ n7, (l1 ++ [x]).length = n7 := ⟨_, rfl⟩
          have HN7 := hid hn7
          clear hrow hn7
          go_upto_region 20 with (at_builtin; refine wpList_append_cell_at rfl (.tmp 84) (.tmp 89) rfl _ W0.heap.size (.slice A1 n1 c1) l1 rfl (HI.out.2.2.2.2.r1.below (below_new _ _)) _ 1 rfl x (ct_new x _ _) (by have := HL1.out; omega) (by have := HI.out.2.2.2.2.siz; simp; omega) ?_; intro v7 w7 h7 hg7 hd7; have HJ7 := hid ((HI.out.2.2.2.2.below (below_new _ _)).more h7 hg7 hd7); obtain ⟨A7, c7, e7, _⟩ := h7.len; rw [HN7.out] at e7; subst e7; clear h7 hg7 hd7)
          clear x0 x1 x2 x3 x4 x5 x6 x7 y0 y1 y2 y3 y4 y5 y6 y7 hrq
          obtain ⟨Wc, hWc⟩ : ∃ Wc, Wc = w7 := ⟨_, rfl⟩
          rw [← hWc] at HJ7 ⊢
          clear hWc
          have HB7 := hid HJ7.out.bel
          have HX7 := hid (ct_words (hhd.below HB7.out hbw) i HX.out)
          have HY7 := hid (DW.words (DW.keep HDW.out HB7.out HDl.out))
          obtain ⟨x0, x1, x2, x3, x4, x5, x6, x7⟩ := HX7.out
          obtain ⟨y0, y1, y2, y3, y4, y5, y6, y7⟩ := HY7.out
          have HX8 := hid (ct_words (hhd.below HB7.out.drew hbw) i HX.out)
          have HY8 := hid (DW.words (DW.keep HDW.out HB7.out.drew HDl.out))
          obtain ⟨z0, z1, z2, z3, z4, z5, z6, z7⟩ := HX8.out
          obtain ⟨t0, t1, t2, t3, t4, t5, t6, t7⟩ := HY8.out
          (first | (go_region_law (first | (go_simp; go_at_call 31; refine (HOx.out _).mono ?_; rintro e w9 ⟨rfl, hb9⟩; have HB9 : Hid (Below Wc.heap.size Wc w9) := (by first | exact (Below.refl _ Wc).drew.trans hb9 | exact hb9)))) | fail)
          all_goals (
            have HB9 := HB9
            clear x0 x1 x2 x3 x4 x5 x6 x7 y0 y1 y2 y3 y4 y5 y6 y7 z0 z1 z2 z3 z4 z5 z6 z7 t0 t1 t2 t3 t4 t5 t6 t7 HX7 HY7 HX8 HY8 hb9
            have HJ9 := hid (HJ7.out.below HB9.out)
            have HGm : Hid (gathIn F most (s.take (i + 1)) [] = gathIn F most (s.take i) []) := by
              show _ = _
              rw [HTk.out, gathIn_snoc, if_neg (fun q => by rw [HFd.out, HO.out, decide_eq_true_eq] at q; exact ho q.2)]
            go_wp2_with (fail)
            go_roundw
            case rel => exact ⟨i + 1, n7, n2, A7, A2, c7, c2, (l1 ++ [x]), l2, by omega, by go_num, rfl, rfl, HN7.out, HI.out.2.1, by rw [HRm.out, HI.out.2.2.1], by rw [HGm.out, HI.out.2.2.2.1], HJ9.out⟩
            case measure => simp only [intOf]; omega)
      · by_cases ho : 0 ≤ o
        · by_cases hmn : (n2 : Int) < most
          · have HRm : Hid ((s.take (i + 1)).filter (rowF row) = (s.take i).filter (rowF row)) := by
              show _ = _
              rw [HTk.out, List.filter_append]
              have : ¬ rowF row x = true := by unfold rowF; rw [decide_eq_true_eq]; exact hrow
              rw [List.filter_cons_of_neg this, List.filter_nil, List.append_nil]
            have hrq : (x.r.toList == row.toList) = false := by rw [rowF_is]; unfold rowF; exact decide_eq_false hrow
            clear hrow
            go_upto_region 20 with (fail)
            have HJ7 := hid HI.out.2.2.2.2
            clear x0 x1 x2 x3 x4 x5 x6 x7 y0 y1 y2 y3 y4 y5 y6 y7 hrq
            obtain ⟨Wc, hWc⟩ : ∃ Wc, Wc = wr := ⟨_, rfl⟩
            rw [← hWc] at HJ7 ⊢
            clear hWc
            have HB7 := hid HJ7.out.bel
            have HX7 := hid (ct_words (hhd.below HB7.out hbw) i HX.out)
            have HY7 := hid (DW.words (DW.keep HDW.out HB7.out HDl.out))
            obtain ⟨x0, x1, x2, x3, x4, x5, x6, x7⟩ := HX7.out
            obtain ⟨y0, y1, y2, y3, y4, y5, y6, y7⟩ := HY7.out
            have HT : Hid (PaX Wc b (off + i * 8) w.heap.size 0 x d Wc) := ⟨hid ⟨Below.refl _ _, Nat.lt_of_lt_of_le hbw HJ7.out.siz, Nat.lt_of_lt_of_le HDl.out HJ7.out.siz⟩, HX7.out, HY7.out⟩
            go_region_held3 (fun W' => Hid (Below Wc.heap.size Wc W' ∧ b < Wc.heap.size ∧ w.heap.size < Wc.heap.size) ∧ (W'.cell? ⟨b, off + i * 8, none⟩ = some (.string x.r) ∧ W'.cell? ⟨b, off + i * 8 + 1, none⟩ = some (.string x.f) ∧ W'.cell? ⟨b, off + i * 8 + 2, none⟩ = some (.string x.q) ∧ W'.cell? ⟨b, off + i * 8 + 3, none⟩ = some (.int .i64 x.t) ∧ W'.cell? ⟨b, off + i * 8 + 4, none⟩ = some (.int .i64 x.k) ∧ W'.cell? ⟨b, off + i * 8 + 5, none⟩ = some (.int .i64 x.vk) ∧ W'.cell? ⟨b, off + i * 8 + 6, none⟩ = some (.int .i64 x.vn) ∧ W'.cell? ⟨b, off + i * 8 + 7, none⟩ = some (.string x.s)) ∧ (W'.cell? ⟨w.heap.size, 0, none⟩ = some (.string d.r) ∧ W'.cell? ⟨w.heap.size, 1, none⟩ = some (.string d.f) ∧ W'.cell? ⟨w.heap.size, 2, none⟩ = some (.string d.q) ∧ W'.cell? ⟨w.heap.size, 3, none⟩ = some (.int .i64 d.t) ∧ W'.cell? ⟨w.heap.size, 4, none⟩ = some (.int .i64 d.k) ∧ W'.cell? ⟨w.heap.size, 5, none⟩ = some (.int .i64 d.vk) ∧ W'.cell? ⟨w.heap.size, 6, none⟩ = some (.int .i64 d.vn) ∧ W'.cell? ⟨w.heap.size, 7, none⟩ = some (.string d.s)))
              (first | exact HT.out | exact pax_drew HT.out | exact pax_call (by assumption) hb3 | exact pax_drew (by assumption) | assumption)
              (first | (go_at_call 31; refine (HOx.out _).mono ?_; rintro e w9 ⟨rfl, hb3⟩))
            rename_i hLast
            have HB9 := hid hLast.1.out.1
            clear HT x0 x1 x2 x3 x4 x5 x6 x7 y0 y1 y2 y3 y4 y5 y6 y7 HX7 HY7 hLast
            have HJ9 := hid (HJ7.out.below HB9.out)
            (
              have HGm : Hid (gathIn F most (s.take (i + 1)) [] = gathIn F most (s.take i) [] ++ [x]) := by
                show _ = _
                rw [HTk.out, gathIn_snoc, if_pos ⟨by rw [← HI.out.2.2.2.1, HI.out.2.1]; exact hmn, by rw [HFd.out, HO.out]; exact decide_eq_true ho⟩]
              obtain ⟨n10, hn10⟩ : ∃ n10, (l2 ++ [x]).length = n10 := ⟨_, rfl⟩
              have HN10 := hid hn10
              clear hn10
              obtain ⟨x0, x1, x2, x3, x4, x5, x6, x7⟩ := ct_words (hhd.below HJ9.out.bel hbw) i HX.out
              go_wp2_with (at_builtin; refine wpList_append_cell_at rfl (.tmp 104) (.tmp 109) rfl _ W0.heap.size (.slice A2 n2 c2) l2 rfl (HJ9.out.r2.below (below_new _ _)) _ 1 rfl x (ct_new x _ _) (by have := HL2.out; omega) (by have := HJ9.out.siz; simp; omega) ?_; intro v10 w10 h10 hg10 hd10; have HJ10 := hid ((HJ9.out.below (below_new _ _)).swap.more h10 hg10 hd10).swap; obtain ⟨A10, c10, e10, _⟩ := h10.len; rw [HN10.out] at e10; subst e10; clear h10 hg10 hd10)
              go_roundw
              case rel => exact ⟨i + 1, n1, n10, A1, A10, c1, c10, l1, l2 ++ [x], by omega, by go_num, rfl, rfl, HI.out.1, HN10.out, by rw [HRm.out, HI.out.2.2.1], by rw [HGm.out, HI.out.2.2.2.1], HJ10.out⟩
              case measure => simp only [intOf]; omega)
          · have HRm : Hid ((s.take (i + 1)).filter (rowF row) = (s.take i).filter (rowF row)) := by
              show _ = _
              rw [HTk.out, List.filter_append]
              have : ¬ rowF row x = true := by unfold rowF; rw [decide_eq_true_eq]; exact hrow
              rw [List.filter_cons_of_neg this, List.filter_nil, List.append_nil]
            have hrq : (x.r.toList == row.toList) = false := by rw [rowF_is]; unfold rowF; exact decide_eq_false hrow
            clear hrow
            go_upto_region 20 with (fail)
            have HJ7 := hid HI.out.2.2.2.2
            clear x0 x1 x2 x3 x4 x5 x6 x7 y0 y1 y2 y3 y4 y5 y6 y7 hrq
            obtain ⟨Wc, hWc⟩ : ∃ Wc, Wc = wr := ⟨_, rfl⟩
            rw [← hWc] at HJ7 ⊢
            clear hWc
            have HB7 := hid HJ7.out.bel
            have HX7 := hid (ct_words (hhd.below HB7.out hbw) i HX.out)
            have HY7 := hid (DW.words (DW.keep HDW.out HB7.out HDl.out))
            obtain ⟨x0, x1, x2, x3, x4, x5, x6, x7⟩ := HX7.out
            obtain ⟨y0, y1, y2, y3, y4, y5, y6, y7⟩ := HY7.out
            have HT : Hid (PaX Wc b (off + i * 8) w.heap.size 0 x d Wc) := ⟨hid ⟨Below.refl _ _, Nat.lt_of_lt_of_le hbw HJ7.out.siz, Nat.lt_of_lt_of_le HDl.out HJ7.out.siz⟩, HX7.out, HY7.out⟩
            go_region_held3 (fun W' => Hid (Below Wc.heap.size Wc W' ∧ b < Wc.heap.size ∧ w.heap.size < Wc.heap.size) ∧ (W'.cell? ⟨b, off + i * 8, none⟩ = some (.string x.r) ∧ W'.cell? ⟨b, off + i * 8 + 1, none⟩ = some (.string x.f) ∧ W'.cell? ⟨b, off + i * 8 + 2, none⟩ = some (.string x.q) ∧ W'.cell? ⟨b, off + i * 8 + 3, none⟩ = some (.int .i64 x.t) ∧ W'.cell? ⟨b, off + i * 8 + 4, none⟩ = some (.int .i64 x.k) ∧ W'.cell? ⟨b, off + i * 8 + 5, none⟩ = some (.int .i64 x.vk) ∧ W'.cell? ⟨b, off + i * 8 + 6, none⟩ = some (.int .i64 x.vn) ∧ W'.cell? ⟨b, off + i * 8 + 7, none⟩ = some (.string x.s)) ∧ (W'.cell? ⟨w.heap.size, 0, none⟩ = some (.string d.r) ∧ W'.cell? ⟨w.heap.size, 1, none⟩ = some (.string d.f) ∧ W'.cell? ⟨w.heap.size, 2, none⟩ = some (.string d.q) ∧ W'.cell? ⟨w.heap.size, 3, none⟩ = some (.int .i64 d.t) ∧ W'.cell? ⟨w.heap.size, 4, none⟩ = some (.int .i64 d.k) ∧ W'.cell? ⟨w.heap.size, 5, none⟩ = some (.int .i64 d.vk) ∧ W'.cell? ⟨w.heap.size, 6, none⟩ = some (.int .i64 d.vn) ∧ W'.cell? ⟨w.heap.size, 7, none⟩ = some (.string d.s)))
              (first | exact HT.out | exact pax_drew HT.out | exact pax_call (by assumption) hb3 | exact pax_drew (by assumption) | assumption)
              (first | (go_at_call 31; refine (HOx.out _).mono ?_; rintro e w9 ⟨rfl, hb3⟩))
            rename_i hLast
            have HB9 := hid hLast.1.out.1
            clear HT x0 x1 x2 x3 x4 x5 x6 x7 y0 y1 y2 y3 y4 y5 y6 y7 HX7 HY7 hLast
            have HJ9 := hid (HJ7.out.below HB9.out)
            (
              have HGm : Hid (gathIn F most (s.take (i + 1)) [] = gathIn F most (s.take i) []) := by
                show _ = _
                rw [HTk.out, gathIn_snoc, if_neg (fun q => by rw [← HI.out.2.2.2.1, HI.out.2.1] at q; have := q.1; omega)]
              go_wp2_with (fail)
              go_roundw
              case rel => exact ⟨i + 1, n1, n2, A1, A2, c1, c2, l1, l2, by omega, by go_num, rfl, rfl, HI.out.1, HI.out.2.1, by rw [HRm.out, HI.out.2.2.1], by rw [HGm.out, HI.out.2.2.2.1], HJ9.out⟩
              case measure => simp only [intOf]; omega)
        · have HRm : Hid ((s.take (i + 1)).filter (rowF row) = (s.take i).filter (rowF row)) := by
            show _ = _
            rw [HTk.out, List.filter_append]
            have : ¬ rowF row x = true := by unfold rowF; rw [decide_eq_true_eq]; exact hrow
            rw [List.filter_cons_of_neg this, List.filter_nil, List.append_nil]
          have hrq : (x.r.toList == row.toList) = false := by rw [rowF_is]; unfold rowF; exact decide_eq_false hrow
          clear hrow
          go_upto_region 20 with (fail)
          have HJ7 := hid HI.out.2.2.2.2
          clear x0 x1 x2 x3 x4 x5 x6 x7 y0 y1 y2 y3 y4 y5 y6 y7 hrq
          obtain ⟨Wc, hWc⟩ : ∃ Wc, Wc = wr := ⟨_, rfl⟩
          rw [← hWc] at HJ7 ⊢
          clear hWc
          have HB7 := hid HJ7.out.bel
          have HX7 := hid (ct_words (hhd.below HB7.out hbw) i HX.out)
          have HY7 := hid (DW.words (DW.keep HDW.out HB7.out HDl.out))
          obtain ⟨x0, x1, x2, x3, x4, x5, x6, x7⟩ := HX7.out
          obtain ⟨y0, y1, y2, y3, y4, y5, y6, y7⟩ := HY7.out
          have HX8 := hid (ct_words (hhd.below HB7.out.drew hbw) i HX.out)
          have HY8 := hid (DW.words (DW.keep HDW.out HB7.out.drew HDl.out))
          obtain ⟨z0, z1, z2, z3, z4, z5, z6, z7⟩ := HX8.out
          obtain ⟨t0, t1, t2, t3, t4, t5, t6, t7⟩ := HY8.out
          (first | (go_region_law (first | (go_simp; go_at_call 31; refine (HOx.out _).mono ?_; rintro e w9 ⟨rfl, hb9⟩; have HB9 : Hid (Below Wc.heap.size Wc w9) := (by first | exact (Below.refl _ Wc).drew.trans hb9 | exact hb9)))) | fail)
          all_goals (
            have HB9 := HB9
            clear x0 x1 x2 x3 x4 x5 x6 x7 y0 y1 y2 y3 y4 y5 y6 y7 z0 z1 z2 z3 z4 z5 z6 z7 t0 t1 t2 t3 t4 t5 t6 t7 HX7 HY7 HX8 HY8 hb9
            have HJ9 := hid (HJ7.out.below HB9.out)
            have HGm : Hid (gathIn F most (s.take (i + 1)) [] = gathIn F most (s.take i) []) := by
              show _ = _
              rw [HTk.out, gathIn_snoc, if_neg (fun q => by rw [HFd.out, HO.out, decide_eq_true_eq] at q; exact ho q.2)]
            go_wp2_with (fail)
            go_roundw
            case rel => exact ⟨i + 1, n1, n2, A1, A2, c1, c2, l1, l2, by omega, by go_num, rfl, rfl, HI.out.1, HI.out.2.1, by rw [HRm.out, HI.out.2.2.1], by rw [HGm.out, HI.out.2.2.2.1], HJ9.out⟩
            case measure => simp only [intOf]; omega)
    · obtain rfl : i = n := by omega
      have hti : s.take i = s := by rw [← HN.out.1, List.take_length]
      have HR := hid HI.out.2.2.2.2
      have HL : Hid (l1 = s.filter (rowF row) ∧ l2 = gathIn F most s []) := by
        obtain ⟨_, _, h1, h2, _⟩ := HI.out
        rw [hti] at h1 h2
        exact ⟨h1, h2⟩
      have HTr : Hid (∃ k, k < 500 ∧ Tb9 w2 wr t vb vi ps u k) := by obtain ⟨k, hk, hT⟩ := H0.out; exact ⟨k, hk, hT.below HR.out.bel⟩
      clear hti HI H0
      obtain ⟨k, hk, hT⟩ := HTr.out
      have HT9 := hid hT
      have HK9 := hid hk
      clear hT hk HTr
      go_upto_region 23 with (go_at_call 32; have hq := HRo.out _ _ _ _ _ _ _ HB2.out HK9.out HT9.out; refine hq.mono ?_; clear hq; rintro e w11 ⟨A11, n11, c11, rfl, h11⟩; have HX11 := hid h11.out)
      obtain ⟨hbt, hx11, k2, hk2, hT2⟩ := HX11.out
      have HTl : Hid (t < W0.heap.size) := by obtain ⟨k, _, hT⟩ := H0t.out; exact hT.blk.lt
      have HR11 := hid (CRow.but HR.out.r1 hbt HTl.out)
      have HS11 := hid (CRow.but HR.out.r2 hbt HTl.out)
      have HXc := hid hx11
      have HT11 := hid hT2
      have HK11 := hid hk2
      have HSz11 := hid hbt.size
      obtain ⟨u0, u1, u2, u3, u4, u5, u6, u7⟩ := DW.words (DW.below HD2.out hT2.bel)
      clear hbt hx11 hk2 hT2 h11 HX11
      go_upto_region 24 with (go_at_call 33; have hq := HFr.out _ _ _ _ _ _ _ HB2.out HK11.out HT11.out; refine hq.mono ?_; clear hq; rintro e w12 ⟨A12, n12, c12, rfl, h12⟩; have HX12 := hid h12.out; clear h12)
      clear u0 u1 u2 u3 u4 u5 u6 u7
      obtain ⟨hbt, hy12, hbw12, htl⟩ := HX12.out
      have HR12 := hid (CRow.but HR11.out hbt HTl.out).cla
      have HS12 := hid (CRow.but HS11.out hbt HTl.out).cla
      have HX13 := hid (CRow.but HXc.out hbt (Nat.lt_of_lt_of_le HTl.out HR.out.siz)).cla
      have HY12 := hid hy12
      have HBw := hid hbw12
      rw [HL.out.1] at HR12
      rw [HL.out.2] at HS12
      clear hbt hy12 hbw12 htl HX12 HR11 HS11 HXc HL
      go_wp2_with (go_at_call 19; first
        | (have hq := HSa.out _ _ _ (gathIn F most s []) (HY12.out.below hb13) (HS12.out.below hb13); refine hq.mono ?_; clear hq; rintro e w14 ⟨rfl, hb14⟩)
        | (have hq := HSa.out _ _ _ (s.filter (rowF row)) HX13.out HR12.out; refine hq.mono ?_; clear hq; rintro e w13 ⟨rfl, hb13⟩))
      go_ret
      exact ⟨rfl, HBw.out.trans ((hb13.trans (hb14.mono hb13.size)).mono HBw.out.size)⟩
theorem tableback_any (v : Value) (l : List CT) (d : CT) (row : ByteArray) (most : Int) (w : World) (h : ClA w v l) (hlen : l.length ≤ 1466015503658) (hv : ∀ c ∈ l, inI c.vn) (hvd : inI d.vn) (hL : LaidU w) :
    Calls Tryz.prog 6 #[v, d.v, .string row, .int .i64 most] w fun e w' => e = .returned (.bool true) ∧ Below w.heap.size w w' := by
  cases hg : longM 120 (l ++ [d]) with
  | true => exact tableback_long v l d row most w h hlen hg hL
  | false =>
    obtain ⟨hl2, hsm⟩ := longM_sm hg (fun c hc => by rcases List.mem_append.1 hc with q | q; exact hv c q; exact (List.mem_singleton.1 q) ▸ hvd)
    rcases Nat.lt_or_ge 100 row.size with h0 | h0
    · exact tableback_row v l d row most h0 w h hlen hg hL
    · exact tableback_in v l d row most h0 w h hlen (by rw [List.length_append] at hl2; omega) (fun c hc => hsm c (by simp [hc])) (hsm d (by simp)) hg hL
end Go.Proofs.YtjbjdkginemedaaGreatDoor

/- TableBack: a table's cells come back; a row's are those among them; from a place on, those behind it. The row and its tied card. Conditions: none but the card's own (the listed variables of the library are laid by the program's text). -/
namespace Go.Proofs.YtjbjdkginemedaaGreatDoor.tableBack
open Go.ChangeShapes Go.WideShapes Go.ChangeAt Go.RowKit

set_option maxRecDepth 100000 in
/-- What the walk gives, for every argument and every world that holds the listed variables. -/
theorem contract (H : Type) (enc : TypeId × Value → H) (W : World) (base : Nat) (args : Array Value) (ds gs : List (DataW H)) (before : List MemPlace)
    (hval : ∀ (j : Nat) t v, Tryz.f6.params[j]? = some t → args[j]? = some v → Value.okWide Tryz.prog W .any base t v)
    (hW : DataW.Whole enc Tryz.prog Tryz.f6.params.toList Rows.tableBackSpec.vars false W args.toList ds gs before) (hL : laidMetH Tryz.prog Rows.tableBackRow.laid W) (hz : (DataW.weightsEach Tryz.prog (Tryz.f6.params.toList ++ (OpenSpec.ofChange Rows.tableBackSpec).bare.plain.varTypes Tryz.prog) (ds ++ gs)).all (· ≤ reachBytes) = true) :
    Calls Tryz.prog 6 args W fun e W' => ∃ v, e = .returned v ∧ Rows.tableBackSpec.post enc Tryz.prog Tryz.f6 false true false false W args v W' := by
  have hW' := hW
  obtain ⟨p, q, hA0, hV, rfl, hfz, hnd⟩ := hW
  have hA : DataW.TrodAll enc Tryz.prog W 0 (fun _ => true) true Tryz.f6.params.toList args.toList ds p := hA0
  rw [Tryz.params6] at hA hval hz
  obtain ⟨v0, vs0, d0, ds0, p0, q_0, hargs, rfl, rfl, h0, r_0⟩ := trodAll_cons hA
  obtain ⟨v1, vs1, d1, ds1, p1, q_1, rfl, rfl, rfl, h1, r_1⟩ := trodAll_cons r_0
  obtain ⟨v2, vs2, d2, ds2, p2, q_2, rfl, rfl, rfl, h2, r_2⟩ := trodAll_cons r_1
  obtain ⟨v3, vs3, d3, ds3, p3, q_3, rfl, rfl, rfl, h3, r_3⟩ := trodAll_cons r_2
  obtain ⟨rfl, rfl, rfl⟩ := trodAll_nil r_3
  obtain rfl : args = #[v0, v1, v2, v3] := by cases args; simp_all
  obtain ⟨rfl, rfl⟩ := trodVars_none hV
  obtain ⟨l0, hs0, hv0, hb0⟩ := open_cla2 (hval 0 22 v0 rfl rfl) h0 (fun n hn => of_decide_eq_true (List.all_eq_true.1 hz n (DataW.weights_mem_each (j := 0) (t := 22) (d := d0) rfl rfl n hn)))
  obtain ⟨r1, f1, q1, t1, k1, vk1, vn1, s1, rfl, rfl, rfl, wr1, wf1, wq1, wt1, wk1, wvk1, wn1, ws1⟩ := open_cell (hval 1 26 v1 rfl rfl) h1
  have hr1 : r1.size ≤ 9223372036854775807 := size_of wr1
  have hf1 : f1.size ≤ 9223372036854775807 := size_of wf1
  have hq1 : q1.size ≤ 9223372036854775807 := size_of wq1
  have hs1 : s1.size ≤ 9223372036854775807 := size_of ws1
  obtain ⟨x2, rfl, rfl, rfl, wx2⟩ := Go.ChangeMaps.open_string Tryz.underlying9 (hval 2 9 v2 rfl rfl) h2
  have hx2 : x2.size ≤ 9223372036854775807 := size_of wx2
  obtain ⟨c3, rfl, rfl, rfl, wc3⟩ := open_int Tryz.underlying3 (hval 3 3 v3 rfl rfl) h3
  clear hA0
  simp only [List.append_nil] at hW'
  have hL2 : LaidU W := laid_u (seat_met5 hL)
  have hlt0 : ∀ x ∈ p0, x.block < W.heap.size := fun x hx => by simpa using hW'.lt x (by simp [hx])
  refine (tableback_any v0 l0 ⟨r1, f1, q1, t1, k1, vk1, vn1, s1⟩ x2 c3 W hs0 hb0 hv0 (inI_of_wf2 wn1) hL2).mono fun e W' ⟨he, hg⟩ => ?_
  subst he
  exact ⟨_, rfl, _, _, _, [], (p0 ++ ([] ++ ([] ++ ([] ++ [])))), [], hW', trodAll_cons_mk (shut_bool Tryz.underlying4 _) trodAll_mk0, (trodAll_cons_mk (Below.trod laid_out (by kernel_rfl) (of_decide_eq_true (by kernel_rfl)) h0 hg hlt0) (trodAll_cons_mk (shut_cell r1 f1 q1 t1 k1 vk1 vn1 s1 wr1 wf1 wq1 wt1 wk1 wvk1 wn1 ws1 0) (trodAll_cons_mk (Go.ChangeMaps.shut_string Tryz.underlying9 wx2) (trodAll_cons_mk (shut_int Tryz.underlying3 wc3) trodAll_mk0)))), rfl, hg.frame _, fun h => by cases h⟩

theorem reads (os : Os) (H : Type) (enc : TypeId × Value → H) : ∃ places, DataW.whole enc Tryz.prog ((laidWorld5 os).forCall (fun _ _ => 0) ⟨#[], #[.slice none 0 0, .agg #[.string ByteArray.empty, .string ByteArray.empty, .string ByteArray.empty, .int .i64 0, .int .i64 0, .int .i64 0, .int .i64 0, .string ByteArray.empty], .string ByteArray.empty, .int .i64 0], []⟩).memory Tryz.f6.params.toList Rows.tableBackSpec.vars false #[Value.slice none 0 0, Value.agg #[.string ByteArray.empty, .string ByteArray.empty, .string ByteArray.empty, .int .i64 0, .int .i64 0, .int .i64 0, .int .i64 0, .string ByteArray.empty], Value.string ByteArray.empty, Value.int .i64 0].toList 12 = some ([.nil, .agg [.lit (.string []), .lit (.string []), .lit (.string []), .lit (.int .i64 0), .lit (.int .i64 0), .agg [.lit (.int .i64 0), .lit (.int .i64 0), .lit (.string [])]], .lit (.string []), .lit (.int .i64 0)], [], places) :=
  ⟨[], by kernel_rfl⟩

set_option maxRecDepth 100000 in
theorem lifted (os : Os) (started : os.Started) (H : Type) (enc : TypeId × Value → H) (F : Stop.Interp) :
    ReturnsInHanded {} Tryz.checked os 6 .any ((OpenSpec.ofChange Rows.tableBackSpec).preRow enc Tryz.prog Tryz.f6 Rows.tableBackRow.domain false Rows.tableBackRow.laid) (((OpenSpec.ofChange Rows.tableBackSpec).at F).post enc Tryz.prog Tryz.f6 false true false false) := by
  obtain ⟨places, hx⟩ := reads os H enc
  refine returnsInHanded_of_row (C := Tryz.checked) (s := OpenSpec.ofChange Rows.tableBackSpec) seat_own started (by kernel_rfl) Tryz.func6
    (witness_row_at (enc := enc) (C := Tryz.checked) false (laidWorld5 os) #[.slice none 0 0, .agg #[.string ByteArray.empty, .string ByteArray.empty, .string ByteArray.empty, .int .i64 0, .int .i64 0, .int .i64 0, .int .i64 0, .string ByteArray.empty], .string ByteArray.empty, .int .i64 0] rfl (by kernel_rfl) (by kernel_rfl) (by kernel_rfl)
      (OpenSpec.preRow_of_cond 12 hx (by kernel_rfl) (fun k hk => by cases hk) (by kernel_rfl) (laid_met5 os _))) ?_
  intro W base args ds gs before hval hW _ _ hz hL _ _
  exact contract H enc W base args ds gs before hval hW hL hz

theorem said : Rows.TableBackSaid :=
  OpenClaim.holds_of_cond 6 Tryz.f6 rfl rfl rfl rfl rfl rfl rfl ⟨rfl, rfl, rfl, rfl, rfl⟩ rfl rfl rfl rfl rfl (by kernel_rfl) Tryz.func6 (by kernel_rfl)
    (of_decide_eq_true (by kernel_rfl)) (by unfold Func.isWrapper; first | (rw [if_pos (by decide +kernel)]; kernel_rfl) | (rw [if_neg (by decide +kernel)]; exact ⟨rfl, rfl⟩))
    (fun os started H enc _ F => by rw [OpenClaim.pre_eq_preRow]; exact lifted os started H enc F)

theorem plain (f : FuncId) (fn : Func) (hf : Tryz.pinned.checked.prog.funcNamed "joist/joistlaw09.TableBack" = some f) (hfn : Tryz.pinned.checked.prog.funcs[f]? = some fn) :
    true = Tryz.pinned.checked.prog.looks [] ∧ ∀ (j : Nat) t, fn.params[j]? = some t → Tryz.pinned.checked.prog.wantsStandIn t = false := by
  obtain rfl : f = 6 := Option.some.inj ((show Tryz.prog.funcNamed "joist/joistlaw09.TableBack" = some 6 by kernel_rfl).symm.trans hf) |>.symm
  obtain rfl : fn = Tryz.f6 := (Option.some.inj (Tryz.func6.symm.trans hfn)).symm
  refine ⟨by kernel_rfl, fun j t ht => ?_⟩
  rw [Tryz.params6] at ht
  have hm := Array.mem_of_getElem? ht
  rcases (show t = 22 ∨ t = 26 ∨ t = 9 ∨ t = 3 by simpa using hm) with rfl | rfl | rfl | rfl
  · exact (show Tryz.prog.wantsStandIn 22 = false by kernel_rfl)
  · exact (show Tryz.prog.wantsStandIn 26 = false by kernel_rfl)
  · exact (show Tryz.prog.wantsStandIn 9 = false by kernel_rfl)
  · exact (show Tryz.prog.wantsStandIn 3 = false by kernel_rfl)

/-- THE CARD. -/
theorem card : Rows.TableBackCardSaid :=
  Claim7.holds_tied_plain_at .later [] _ _ _ _ said (fun _ h => by cases h) (by kernel_rfl) (fun _ h => by cases h) tableBack_row_tie rfl ⟨rfl, rfl⟩ (by kernel_rfl) rfl plain (by kernel_rfl)
end Go.Proofs.YtjbjdkginemedaaGreatDoor.tableBack
namespace Go.Proofs.YtjbjdkginemedaaGreatDoor
theorem tableBack_card : Rows.TableBackCardSaid := tableBack.card
end Go.Proofs.YtjbjdkginemedaaGreatDoor
