/- Several texts in one: UI PTNea. Conditions: as each theorem names them. -/
import Derived.Test.YtjbjdkginemedaaGreatDoorQT7
import Derived.Test.YtjbjdkginemedaaGreatDoorQT8
import Derived.Test.YtjbjdkginemedaaGreatDoorQP
/- The statement of layer 9: the first cells from a place on are found by looking at few blocks. Conditions: the arguments stand, their numbers are of 64 bits; the list is within the machine's reach; the tables of utf8 read as they are laid. -/
namespace Go.Proofs.YtjbjdkginemedaaGreatDoor
open Go.RowKit

set_option maxHeartbeats 16000000 in
set_option maxRecDepth 100000 in
theorem tablenear_long (v : Value) (l : List CT) (d : CT) (most : Int) (w : World) (h : ClA w v l) (hlen : l.length ≤ 1466015503658) (hg : longM 120 (l ++ [d]) = true) (hL : LaidU w) :
    Calls Tryz.prog 8 #[v, d.v, .int .i64 most] w fun e w' => e = .returned (.bool true) ∧ Below w.heap.size w w' := by
  have mixed : Tryz.prog.follows .mixedOrders = true := by kernel_rfl
  have HA := hid fun W (hb : Below w.heap.size w W) => alive9_any W (hL.below hb)
  have HCp : Hid (∀ W, Below w.heap.size w W → Calls Tryz.prog 11 #[v] W fun e w' => ∃ v', e = .returned v' ∧ CRow w' W.heap.size v' l ∧ Below W.heap.size W w') := fun W hb => copycells_any v l hlen W (h.below hb)
  have HLen := hid hlen
  have HLg : Hid (∀ W v', ClA W v' (l ++ [d]) → Calls Tryz.prog 23 #[v'] W fun e w' => e = .returned (.bool true) ∧ Below W.heap.size W w') := fun W v' h => by rw [← hg]; exact long9_any v' (l ++ [d]) W h
  clear h hL hg hlen
  go_enter Tryz.func8, Tryz.ntmps8
  go_upto_region 3 with (go_at_call 22; refine (HA.out _ (below_new _ _)).mono ?_; rintro e w5 ⟨rfl, hb5⟩)
  have HB5 : Hid (Below w.heap.size w w5) := (below_new w _).trans (hb5.mono (by simp))
  have HD5 : Hid (DW w5 w.heap.size d) := DW.below (Blk.new w _ _) hb5
  have HG5 : Hid (w.heap.size < w5.heap.size) := by have := hb5.size; simp at this; exact this
  clear hb5
  obtain ⟨x0, x1, x2, x3, x4, x5, x6, x7⟩ := DW.words HD5.out
  have HBd : Hid (Below w.heap.size w w5.drew) := HB5.out.drew
  have HDd : Hid (DW w5.drew w.heap.size d) := DW.below HD5.out (Below.refl _ _).drew
  have HBa : Hid (∀ t, Below w.heap.size w (w5.drew.alloc (.cells #[.string d.r, .string d.f, .string d.q, .int .i64 d.t, .int .i64 d.k, .int .i64 d.vk, .int .i64 d.vn, .string d.s] t))) := fun t => HBd.out.trans ((below_new _ _).mono (by show w.heap.size ≤ w5.heap.size; exact Nat.le_of_lt HG5.out))
  have HDa : Hid (∀ t, DW (w5.drew.alloc (.cells #[.string d.r, .string d.f, .string d.q, .int .i64 d.t, .int .i64 d.k, .int .i64 d.vk, .int .i64 d.vn, .string d.s] t)) w.heap.size d) := fun t => DW.below HDd.out (below_new _ _)
  have HDn : Hid (DW (w5.drew.alloc (.cells #[.string d.r, .string d.f, .string d.q, .int .i64 d.t, .int .i64 d.k, .int .i64 d.vk, .int .i64 d.vn, .string d.s] 26)) w5.drew.heap.size d) := Blk.new w5.drew 26 d.e.toArray
  obtain ⟨y0, y1, y2, y3, y4, y5, y6, y7⟩ := DW.words HDd.out
  (first | (go_region_law (first
    | (go_simp; go_at_call 11; refine (HCp.out _ ?_).mono ?_; (first | exact HBd.out | exact HBa.out _); rintro e w6 ⟨v6, rfl, hr6, hb6⟩; have hd6 : DW w6 w.heap.size d := (by first | exact DW.below HDd.out hb6 | exact DW.below (HDa.out _) hb6); have HD6 := hid hd6; obtain ⟨z0, z1, z2, z3, z4, z5, z6, z7⟩ := DW.words hd6; have HB6 : Hid (Below w.heap.size w w6 ∧ w5.heap.size ≤ w6.heap.size) := (by first | exact ⟨HBd.out.trans (hb6.mono HBd.out.size), hb6.size⟩ | exact ⟨(HBa.out _).trans (hb6.mono (HBa.out _).size), Nat.le_trans (by simp) hb6.size⟩); have HZ6 : Hid (Below w5.heap.size w5 w6) := (by first | exact (Below.refl _ w5).drew.trans hb6 | exact (Below.refl _ w5).drew.trans ((below_new w5.drew _).trans (hb6.mono (by simp)))); have HR6 : Hid (CRow w6 w5.heap.size v6 l) := (by first | exact hr6 | exact hr6.le (by simp)); clear hd6)
    | (refine step_append_cell rfl (.tmp 15) (.tmp 17) rfl _ w5.heap.size v6 l rfl ?_ _ 1 rfl d ?_ HLen.out ?_ ?_; (first | exact HR6.out | exact World.ownsRow.alloc HR6.out _); (first | exact ct_dw (Blk.new w6 26 d.e.toArray) | exact ct_dw (DW.below HDn.out hb6)); (have := HB6.out.2; simp; omega); intro v7 w7 hr7 hb7; have HD7 : Hid (DW w7 w.heap.size d) := (by first | exact DW.keep HD6.out hb7 HG5.out | exact DW.keep (DW.below HD6.out (below_new _ _)) hb7 HG5.out); have HB7 : Hid (Below w.heap.size w w7) := (by first | exact HB6.out.1.trans (hb7.mono (Nat.le_of_lt HG5.out)) | exact (HB6.out.1.trans ((below_new _ _).mono HB6.out.1.size)).trans (hb7.mono (Nat.le_of_lt HG5.out))); have HZ7 : Hid (Below w5.heap.size w5 w7) := (by first | exact HZ6.out.trans hb7 | exact (HZ6.out.trans ((below_new _ _).mono HZ6.out.size)).trans hb7); have HC7 := hid hr7.cla; obtain ⟨t0, t1, t2, t3, t4, t5, t6, t7⟩ := DW.words HD7.out)
    | (go_simp; go_at_call 23; refine (HLg.out _ _ ?_).mono ?_; exact HC7.out; rintro e w8 ⟨rfl, hb8⟩; have HD8 := hid (DW.below HD7.out hb8); have HB8 := hid (HB7.out.trans (hb8.mono HB7.out.size)); obtain ⟨r0, r1, r2, r3, r4, r5, r6, r7⟩ := DW.words HD8.out))) | fail)
  all_goals (go_wp2; go_ret; exact ⟨rfl, HB8.out⟩)
set_option maxHeartbeats 16000000 in
set_option maxRecDepth 100000 in
theorem tablenear_below (v : Value) (l : List CT) (d : CT) (most : Int) (hm : most < 0) (w : World) (h : ClA w v l) (hlen : l.length ≤ 1466015503658) (hg : longM 120 (l ++ [d]) = false) (hL : LaidU w) :
    Calls Tryz.prog 8 #[v, d.v, .int .i64 most] w fun e w' => e = .returned (.bool true) ∧ Below w.heap.size w w' := by
  have mixed : Tryz.prog.follows .mixedOrders = true := by kernel_rfl
  have HA := hid fun W (hb : Below w.heap.size w W) => alive9_any W (hL.below hb)
  have HCp : Hid (∀ W, Below w.heap.size w W → Calls Tryz.prog 11 #[v] W fun e w' => ∃ v', e = .returned v' ∧ CRow w' W.heap.size v' l ∧ Below W.heap.size W w') := fun W hb => copycells_any v l hlen W (h.below hb)
  have HLen := hid hlen
  have HLg : Hid (∀ W v', ClA W v' (l ++ [d]) → Calls Tryz.prog 23 #[v'] W fun e w' => e = .returned (.bool false) ∧ Below W.heap.size W w') := fun W v' h => by rw [← hg]; exact long9_any v' (l ++ [d]) W h
  have hz1 : most < 0 := hm
  clear h hL hg hlen hm
  go_enter Tryz.func8, Tryz.ntmps8
  go_upto_region 3 with (go_at_call 22; refine (HA.out _ (below_new _ _)).mono ?_; rintro e w5 ⟨rfl, hb5⟩)
  have HB5 : Hid (Below w.heap.size w w5) := (below_new w _).trans (hb5.mono (by simp))
  have HD5 : Hid (DW w5 w.heap.size d) := DW.below (Blk.new w _ _) hb5
  have HG5 : Hid (w.heap.size < w5.heap.size) := by have := hb5.size; simp at this; exact this
  clear hb5
  obtain ⟨x0, x1, x2, x3, x4, x5, x6, x7⟩ := DW.words HD5.out
  have HBd : Hid (Below w.heap.size w w5.drew) := HB5.out.drew
  have HDd : Hid (DW w5.drew w.heap.size d) := DW.below HD5.out (Below.refl _ _).drew
  have HBa : Hid (∀ t, Below w.heap.size w (w5.drew.alloc (.cells #[.string d.r, .string d.f, .string d.q, .int .i64 d.t, .int .i64 d.k, .int .i64 d.vk, .int .i64 d.vn, .string d.s] t))) := fun t => HBd.out.trans ((below_new _ _).mono (by show w.heap.size ≤ w5.heap.size; exact Nat.le_of_lt HG5.out))
  have HDa : Hid (∀ t, DW (w5.drew.alloc (.cells #[.string d.r, .string d.f, .string d.q, .int .i64 d.t, .int .i64 d.k, .int .i64 d.vk, .int .i64 d.vn, .string d.s] t)) w.heap.size d) := fun t => DW.below HDd.out (below_new _ _)
  have HDn : Hid (DW (w5.drew.alloc (.cells #[.string d.r, .string d.f, .string d.q, .int .i64 d.t, .int .i64 d.k, .int .i64 d.vk, .int .i64 d.vn, .string d.s] 26)) w5.drew.heap.size d) := Blk.new w5.drew 26 d.e.toArray
  obtain ⟨y0, y1, y2, y3, y4, y5, y6, y7⟩ := DW.words HDd.out
  (first | (go_region_law (first
    | (go_simp; go_at_call 11; refine (HCp.out _ ?_).mono ?_; (first | exact HBd.out | exact HBa.out _); rintro e w6 ⟨v6, rfl, hr6, hb6⟩; have hd6 : DW w6 w.heap.size d := (by first | exact DW.below HDd.out hb6 | exact DW.below (HDa.out _) hb6); have HD6 := hid hd6; obtain ⟨z0, z1, z2, z3, z4, z5, z6, z7⟩ := DW.words hd6; have HB6 : Hid (Below w.heap.size w w6 ∧ w5.heap.size ≤ w6.heap.size) := (by first | exact ⟨HBd.out.trans (hb6.mono HBd.out.size), hb6.size⟩ | exact ⟨(HBa.out _).trans (hb6.mono (HBa.out _).size), Nat.le_trans (by simp) hb6.size⟩); have HZ6 : Hid (Below w5.heap.size w5 w6) := (by first | exact (Below.refl _ w5).drew.trans hb6 | exact (Below.refl _ w5).drew.trans ((below_new w5.drew _).trans (hb6.mono (by simp)))); have HR6 : Hid (CRow w6 w5.heap.size v6 l) := (by first | exact hr6 | exact hr6.le (by simp)); clear hd6)
    | (refine step_append_cell rfl (.tmp 15) (.tmp 17) rfl _ w5.heap.size v6 l rfl ?_ _ 1 rfl d ?_ HLen.out ?_ ?_; (first | exact HR6.out | exact World.ownsRow.alloc HR6.out _); (first | exact ct_dw (Blk.new w6 26 d.e.toArray) | exact ct_dw (DW.below HDn.out hb6)); (have := HB6.out.2; simp; omega); intro v7 w7 hr7 hb7; have HD7 : Hid (DW w7 w.heap.size d) := (by first | exact DW.keep HD6.out hb7 HG5.out | exact DW.keep (DW.below HD6.out (below_new _ _)) hb7 HG5.out); have HB7 : Hid (Below w.heap.size w w7) := (by first | exact HB6.out.1.trans (hb7.mono (Nat.le_of_lt HG5.out)) | exact (HB6.out.1.trans ((below_new _ _).mono HB6.out.1.size)).trans (hb7.mono (Nat.le_of_lt HG5.out))); have HZ7 : Hid (Below w5.heap.size w5 w7) := (by first | exact HZ6.out.trans hb7 | exact (HZ6.out.trans ((below_new _ _).mono HZ6.out.size)).trans hb7); have HC7 := hid hr7.cla; obtain ⟨t0, t1, t2, t3, t4, t5, t6, t7⟩ := DW.words HD7.out)
    | (go_simp; go_at_call 23; refine (HLg.out _ _ ?_).mono ?_; exact HC7.out; rintro e w8 ⟨rfl, hb8⟩; have HD8 := hid (DW.below HD7.out hb8); have HB8 := hid (HB7.out.trans (hb8.mono HB7.out.size)); obtain ⟨r0, r1, r2, r3, r4, r5, r6, r7⟩ := DW.words HD8.out))) | fail)
  all_goals (go_wp2; go_ret; exact ⟨rfl, HB8.out⟩)
set_option maxHeartbeats 16000000 in
set_option maxRecDepth 100000 in
theorem tablenear_above (v : Value) (l : List CT) (d : CT) (most : Int) (hm : 1000 < most) (w : World) (h : ClA w v l) (hlen : l.length ≤ 1466015503658) (hg : longM 120 (l ++ [d]) = false) (hL : LaidU w) :
    Calls Tryz.prog 8 #[v, d.v, .int .i64 most] w fun e w' => e = .returned (.bool true) ∧ Below w.heap.size w w' := by
  have mixed : Tryz.prog.follows .mixedOrders = true := by kernel_rfl
  have HA := hid fun W (hb : Below w.heap.size w W) => alive9_any W (hL.below hb)
  have HCp : Hid (∀ W, Below w.heap.size w W → Calls Tryz.prog 11 #[v] W fun e w' => ∃ v', e = .returned v' ∧ CRow w' W.heap.size v' l ∧ Below W.heap.size W w') := fun W hb => copycells_any v l hlen W (h.below hb)
  have HLen := hid hlen
  have HLg : Hid (∀ W v', ClA W v' (l ++ [d]) → Calls Tryz.prog 23 #[v'] W fun e w' => e = .returned (.bool false) ∧ Below W.heap.size W w') := fun W v' h => by rw [← hg]; exact long9_any v' (l ++ [d]) W h
  have hz1 : ¬ most < 0 := by omega
  have hz2 : (1000 : Int) < most := hm
  clear h hL hg hlen hm
  go_enter Tryz.func8, Tryz.ntmps8
  go_upto_region 3 with (go_at_call 22; refine (HA.out _ (below_new _ _)).mono ?_; rintro e w5 ⟨rfl, hb5⟩)
  have HB5 : Hid (Below w.heap.size w w5) := (below_new w _).trans (hb5.mono (by simp))
  have HD5 : Hid (DW w5 w.heap.size d) := DW.below (Blk.new w _ _) hb5
  have HG5 : Hid (w.heap.size < w5.heap.size) := by have := hb5.size; simp at this; exact this
  clear hb5
  obtain ⟨x0, x1, x2, x3, x4, x5, x6, x7⟩ := DW.words HD5.out
  have HBd : Hid (Below w.heap.size w w5.drew) := HB5.out.drew
  have HDd : Hid (DW w5.drew w.heap.size d) := DW.below HD5.out (Below.refl _ _).drew
  have HBa : Hid (∀ t, Below w.heap.size w (w5.drew.alloc (.cells #[.string d.r, .string d.f, .string d.q, .int .i64 d.t, .int .i64 d.k, .int .i64 d.vk, .int .i64 d.vn, .string d.s] t))) := fun t => HBd.out.trans ((below_new _ _).mono (by show w.heap.size ≤ w5.heap.size; exact Nat.le_of_lt HG5.out))
  have HDa : Hid (∀ t, DW (w5.drew.alloc (.cells #[.string d.r, .string d.f, .string d.q, .int .i64 d.t, .int .i64 d.k, .int .i64 d.vk, .int .i64 d.vn, .string d.s] t)) w.heap.size d) := fun t => DW.below HDd.out (below_new _ _)
  have HDn : Hid (DW (w5.drew.alloc (.cells #[.string d.r, .string d.f, .string d.q, .int .i64 d.t, .int .i64 d.k, .int .i64 d.vk, .int .i64 d.vn, .string d.s] 26)) w5.drew.heap.size d) := Blk.new w5.drew 26 d.e.toArray
  obtain ⟨y0, y1, y2, y3, y4, y5, y6, y7⟩ := DW.words HDd.out
  (first | (go_region_law (first
    | (go_simp; go_at_call 11; refine (HCp.out _ ?_).mono ?_; (first | exact HBd.out | exact HBa.out _); rintro e w6 ⟨v6, rfl, hr6, hb6⟩; have hd6 : DW w6 w.heap.size d := (by first | exact DW.below HDd.out hb6 | exact DW.below (HDa.out _) hb6); have HD6 := hid hd6; obtain ⟨z0, z1, z2, z3, z4, z5, z6, z7⟩ := DW.words hd6; have HB6 : Hid (Below w.heap.size w w6 ∧ w5.heap.size ≤ w6.heap.size) := (by first | exact ⟨HBd.out.trans (hb6.mono HBd.out.size), hb6.size⟩ | exact ⟨(HBa.out _).trans (hb6.mono (HBa.out _).size), Nat.le_trans (by simp) hb6.size⟩); have HZ6 : Hid (Below w5.heap.size w5 w6) := (by first | exact (Below.refl _ w5).drew.trans hb6 | exact (Below.refl _ w5).drew.trans ((below_new w5.drew _).trans (hb6.mono (by simp)))); have HR6 : Hid (CRow w6 w5.heap.size v6 l) := (by first | exact hr6 | exact hr6.le (by simp)); clear hd6)
    | (refine step_append_cell rfl (.tmp 15) (.tmp 17) rfl _ w5.heap.size v6 l rfl ?_ _ 1 rfl d ?_ HLen.out ?_ ?_; (first | exact HR6.out | exact World.ownsRow.alloc HR6.out _); (first | exact ct_dw (Blk.new w6 26 d.e.toArray) | exact ct_dw (DW.below HDn.out hb6)); (have := HB6.out.2; simp; omega); intro v7 w7 hr7 hb7; have HD7 : Hid (DW w7 w.heap.size d) := (by first | exact DW.keep HD6.out hb7 HG5.out | exact DW.keep (DW.below HD6.out (below_new _ _)) hb7 HG5.out); have HB7 : Hid (Below w.heap.size w w7) := (by first | exact HB6.out.1.trans (hb7.mono (Nat.le_of_lt HG5.out)) | exact (HB6.out.1.trans ((below_new _ _).mono HB6.out.1.size)).trans (hb7.mono (Nat.le_of_lt HG5.out))); have HZ7 : Hid (Below w5.heap.size w5 w7) := (by first | exact HZ6.out.trans hb7 | exact (HZ6.out.trans ((below_new _ _).mono HZ6.out.size)).trans hb7); have HC7 := hid hr7.cla; obtain ⟨t0, t1, t2, t3, t4, t5, t6, t7⟩ := DW.words HD7.out)
    | (go_simp; go_at_call 23; refine (HLg.out _ _ ?_).mono ?_; exact HC7.out; rintro e w8 ⟨rfl, hb8⟩; have HD8 := hid (DW.below HD7.out hb8); have HB8 := hid (HB7.out.trans (hb8.mono HB7.out.size)); obtain ⟨r0, r1, r2, r3, r4, r5, r6, r7⟩ := DW.words HD8.out))) | fail)
  all_goals (go_wp2; go_ret; exact ⟨rfl, HB8.out⟩)
set_option maxHeartbeats 16000000 in
set_option maxRecDepth 100000 in
theorem tablenear_in (v : Value) (l : List CT) (d : CT) (most : Int) (hm0 : 0 ≤ most) (hm1 : most ≤ 1000) (w : World) (h : ClA w v l) (hlen : l.length ≤ 1466015503658) (hl : l.length ≤ 120) (hs : ∀ c ∈ l, Sm c) (hg : longM 120 (l ++ [d]) = false) (hL : LaidU w) :
    Calls Tryz.prog 8 #[v, d.v, .int .i64 most] w fun e w' => e = .returned (.bool true) ∧ Below w.heap.size w w' := by
  have mixed : Tryz.prog.follows .mixedOrders = true := by kernel_rfl
  have HA := hid fun W (hb : Below w.heap.size w W) => alive9_any W (hL.below hb)
  have HCp : Hid (∀ W, Below w.heap.size w W → Calls Tryz.prog 11 #[v] W fun e w' => ∃ v', e = .returned v' ∧ CRow w' W.heap.size v' l ∧ Below W.heap.size W w') := fun W hb => copycells_any v l hlen W (h.below hb)
  have HLen := hid hlen
  have HLg : Hid (∀ W v', ClA W v' (l ++ [d]) → Calls Tryz.prog 23 #[v'] W fun e w' => e = .returned (.bool false) ∧ Below W.heap.size W w') := fun W v' h => by rw [← hg]; exact long9_any v' (l ++ [d]) W h
  have HSo : Hid (∀ W, Below w.heap.size w W → Calls Tryz.prog 29 #[v] W fun e w' => ∃ As ns cs, e = .returned (.slice As ns cs) ∧ Hid (ns = (sortL [] l).length ∧ ClA w' (.slice As ns cs) (sortL [] l) ∧ Below W.heap.size W w')) := fun W hW => by
    refine (refsort_any v l W (h.below hW) hs (by omega)).mono fun e w' ⟨v', he, hr, hb⟩ => ?_
    obtain ⟨As, cs, rfl, _⟩ := hr.len
    exact ⟨As, _, cs, he, rfl, hr.cla, hb⟩
  have hSm := (sortL_i l [] sortI_nil hs).sm
  obtain ⟨hbc, hfine, hsl⟩ := sort_bc hs
  obtain ⟨s, hS⟩ : ∃ s, sortL [] l = s := ⟨_, rfl⟩
  rw [hS] at HSo hSm hbc hfine hsl
  obtain ⟨hpt, hflat⟩ := pt9_of (s := s) (by omega) hbc hfine
  obtain ⟨ps, hps⟩ : ∃ ps, cutL 256 s = ps := ⟨_, rfl⟩
  rw [hps] at hpt hflat
  have HBu : Hid (∀ W v, Below w.heap.size w W → ClA W v s → Calls Tryz.prog 24 #[v] W fun e w' => ∃ A nb cap, e = .returned (.tuple #[.slice A nb cap, .bool true]) ∧ Hid (SlA w' (.slice A nb cap) (tabB ps) ∧ Below W.heap.size W w')) := fun W u hW hu => by
    refine (tbuild_any u s (by omega) W hu hSm (hL.below hW)).mono fun e w' ⟨hb, hx⟩ => ?_
    unfold TbEnd at hx
    rw [if_pos hfine, hps] at hx
    obtain ⟨v', he, hr⟩ := hx
    obtain ⟨A, c, rfl, _⟩ := id hr.sla
    exact ⟨A, _, c, he, hr.sla, hb⟩
  have HOp : Hid (∀ W v, Below w.heap.size w W → SlA W v (tabB ps) → Calls Tryz.prog 26 #[v] W fun e w' => ∃ t vb vi u, e = .returned (.tuple #[.pointer (some ⟨t, 0, none⟩), .int .i64 0]) ∧ Hid (Tb9 W w' t vb vi ps u 0)) := fun W v hW hs =>
    topen_any v ps hpt.cut hpt.bc hpt.n hpt.ix hpt.pl W hs (hL.below hW)
  have HFr : Hid (∀ W wb t vb vi u, Below w.heap.size w wb → Tb9 wb W t vb vi ps u 0 → Calls Tryz.prog 33 #[.pointer (some ⟨t, 0, none⟩), d.v, .int .i64 most] W fun e w' => ∃ A n c m, e = .returned (.tuple #[.slice A n c, .int .i64 0]) ∧ Hid ((n : Int) ≤ most ∧ m ≤ n + 2 ∧ (most = 0 → m = 0) ∧ Tb9 wb w' t vb vi ps u m)) := fun W wb t vb vi u hW h => by
    refine (from9 h hpt (by omega) (hL.below hW) most d).mono fun e w' ⟨v, m, e1, e2, e4, e5⟩ => ?_
    obtain ⟨r1, r2⟩ := from_res hpt.cut d most rfl e2
    obtain ⟨A, c, rfl, _⟩ := e4.len
    rw [Nat.zero_add] at e5
    refine ⟨A, _, c, _, e1, ?_, r2, fun h0 => ?_, e5⟩
    · rw [r1]
      obtain ⟨k, rfl⟩ : ∃ k : Nat, most = (k : Int) := ⟨most.toNat, by omega⟩
      have := (gathIn_take (fun x => decide (0 ≤ CT.cmp x d)) k ps.flatten [] (by simp)).2
      omega
    · rw [h0, gath_none _ _ (by omega)]
  have HLk : Hid (∀ W wb t vb vi u m, Tb9 wb W t vb vi ps u m → Calls Tryz.prog 34 #[.pointer (some ⟨t, 0, none⟩)] W fun e w' => e = .returned (.int .i64 (m : Int)) ∧ w' = W) := fun W wb t vb vi u m h => looked_any t vb vi _ W h.blk
  have hz1 : ¬ most < 0 := by omega
  have hz2 : ¬ (1000 : Int) < most := by omega
  clear h hL hg hlen hl hs hSm hbc hfine hsl hS hpt hflat hps
  go_enter Tryz.func8, Tryz.ntmps8
  go_upto_region 3 with (go_at_call 22; refine (HA.out _ (below_new _ _)).mono ?_; rintro e w5 ⟨rfl, hb5⟩)
  have HB5 : Hid (Below w.heap.size w w5) := (below_new w _).trans (hb5.mono (by simp))
  have HD5 : Hid (DW w5 w.heap.size d) := DW.below (Blk.new w _ _) hb5
  have HG5 : Hid (w.heap.size < w5.heap.size) := by have := hb5.size; simp at this; exact this
  clear hb5
  obtain ⟨x0, x1, x2, x3, x4, x5, x6, x7⟩ := DW.words HD5.out
  have HBd : Hid (Below w.heap.size w w5.drew) := HB5.out.drew
  have HDd : Hid (DW w5.drew w.heap.size d) := DW.below HD5.out (Below.refl _ _).drew
  have HBa : Hid (∀ t, Below w.heap.size w (w5.drew.alloc (.cells #[.string d.r, .string d.f, .string d.q, .int .i64 d.t, .int .i64 d.k, .int .i64 d.vk, .int .i64 d.vn, .string d.s] t))) := fun t => HBd.out.trans ((below_new _ _).mono (by show w.heap.size ≤ w5.heap.size; exact Nat.le_of_lt HG5.out))
  have HDa : Hid (∀ t, DW (w5.drew.alloc (.cells #[.string d.r, .string d.f, .string d.q, .int .i64 d.t, .int .i64 d.k, .int .i64 d.vk, .int .i64 d.vn, .string d.s] t)) w.heap.size d) := fun t => DW.below HDd.out (below_new _ _)
  have HDn : Hid (DW (w5.drew.alloc (.cells #[.string d.r, .string d.f, .string d.q, .int .i64 d.t, .int .i64 d.k, .int .i64 d.vk, .int .i64 d.vn, .string d.s] 26)) w5.drew.heap.size d) := Blk.new w5.drew 26 d.e.toArray
  obtain ⟨y0, y1, y2, y3, y4, y5, y6, y7⟩ := DW.words HDd.out
  (first | (go_region_law (first
    | (go_simp; go_at_call 11; refine (HCp.out _ ?_).mono ?_; (first | exact HBd.out | exact HBa.out _); rintro e w6 ⟨v6, rfl, hr6, hb6⟩; have hd6 : DW w6 w.heap.size d := (by first | exact DW.below HDd.out hb6 | exact DW.below (HDa.out _) hb6); have HD6 := hid hd6; obtain ⟨z0, z1, z2, z3, z4, z5, z6, z7⟩ := DW.words hd6; have HB6 : Hid (Below w.heap.size w w6 ∧ w5.heap.size ≤ w6.heap.size) := (by first | exact ⟨HBd.out.trans (hb6.mono HBd.out.size), hb6.size⟩ | exact ⟨(HBa.out _).trans (hb6.mono (HBa.out _).size), Nat.le_trans (by simp) hb6.size⟩); have HZ6 : Hid (Below w5.heap.size w5 w6) := (by first | exact (Below.refl _ w5).drew.trans hb6 | exact (Below.refl _ w5).drew.trans ((below_new w5.drew _).trans (hb6.mono (by simp)))); have HR6 : Hid (CRow w6 w5.heap.size v6 l) := (by first | exact hr6 | exact hr6.le (by simp)); clear hd6)
    | (refine step_append_cell rfl (.tmp 15) (.tmp 17) rfl _ w5.heap.size v6 l rfl ?_ _ 1 rfl d ?_ HLen.out ?_ ?_; (first | exact HR6.out | exact World.ownsRow.alloc HR6.out _); (first | exact ct_dw (Blk.new w6 26 d.e.toArray) | exact ct_dw (DW.below HDn.out hb6)); (have := HB6.out.2; simp; omega); intro v7 w7 hr7 hb7; have HD7 : Hid (DW w7 w.heap.size d) := (by first | exact DW.keep HD6.out hb7 HG5.out | exact DW.keep (DW.below HD6.out (below_new _ _)) hb7 HG5.out); have HB7 : Hid (Below w.heap.size w w7) := (by first | exact HB6.out.1.trans (hb7.mono (Nat.le_of_lt HG5.out)) | exact (HB6.out.1.trans ((below_new _ _).mono HB6.out.1.size)).trans (hb7.mono (Nat.le_of_lt HG5.out))); have HZ7 : Hid (Below w5.heap.size w5 w7) := (by first | exact HZ6.out.trans hb7 | exact (HZ6.out.trans ((below_new _ _).mono HZ6.out.size)).trans hb7); have HC7 := hid hr7.cla; obtain ⟨t0, t1, t2, t3, t4, t5, t6, t7⟩ := DW.words HD7.out)
    | (go_simp; go_at_call 23; refine (HLg.out _ _ ?_).mono ?_; exact HC7.out; rintro e w8 ⟨rfl, hb8⟩; have HD8 := hid (DW.below HD7.out hb8); have HB8 := hid (HB7.out.trans (hb8.mono HB7.out.size)); obtain ⟨r0, r1, r2, r3, r4, r5, r6, r7⟩ := DW.words HD8.out))) | fail)
  all_goals (
    have HB8 := HB8
    have HD8 := HD8
    clear HBd HDd HBa HDa HDn HB5 HD5 HG5 HB6 HD6 HB7 HD7 HC7 HR6 HZ6 HZ7 x0 x1 x2 x3 x4 x5 x6 x7 y0 y1 y2 y3 y4 y5 y6 y7 z0 z1 z2 z3 z4 z5 z6 z7 t0 t1 t2 t3 t4 t5 t6 t7 r0 r1 r2 r3 r4 r5 r6 r7 hb8
    go_upto_region 9 with (first
      | (go_at_call 29; refine (HSo.out _ HB8.out).mono ?_; rintro e w1 ⟨As, ns, cs, rfl, h1⟩; have HB1 := hid (HB8.out.trans (h1.out.2.2.mono HB8.out.size)); have HC1 := hid h1.out.2.1; have HD1 := hid (DW.below HD8.out h1.out.2.2); clear h1)
      | (go_at_call 24; refine (HBu.out _ _ HB1.out HC1.out).mono ?_; rintro e w2 ⟨A2, n2, c2, rfl, h2⟩; have HB2 := hid (HB1.out.trans (h2.out.2.mono HB1.out.size)); have HS2 := hid h2.out.1; have HD2 := hid (DW.below HD1.out h2.out.2); clear h2)
      | (go_at_call 26; have hq := HOp.out _ _ HB2.out HS2.out; refine hq.mono ?_; clear hq; rintro e w3 ⟨t, vb, vi, u, rfl, h3⟩; have HT3 := hid h3.out; have HD3 := hid (DW.below HD2.out h3.out.bel); clear h3))
    obtain ⟨u0, u1, u2, u3, u4, u5, u6, u7⟩ := DW.words HD3.out
    go_upto_region 10 with (go_at_call 33; have hq := HFr.out _ _ _ _ _ _ HB2.out HT3.out; refine hq.mono ?_; clear hq; rintro e w6 ⟨A6, n6, c6, m, rfl, h6⟩; have HT6 := hid h6.out.2.2.2; have HM6 := hid (And.intro h6.out.1 (And.intro h6.out.2.1 h6.out.2.2.1)); clear h6)
    clear u0 u1 u2 u3 u4 u5 u6 u7
    have hw1 : IntKind.i64.wrap ((n6 : Int) + 2) = (n6 : Int) + 2 := by rw [IntKind.wrap_i64]; have := HM6.out.1; omega
    have hz3 : (n6 : Int) ≤ most := HM6.out.1
    have hz4 : (m : Int) ≤ (n6 : Int) + 2 := by have := HM6.out.2.1; omega
    by_cases hp : 0 < most
    · go_wp2_with (go_at_call 34; have hq := HLk.out _ _ _ _ _ _ _ HT6.out; refine hq.mono ?_; clear hq; rintro e w12 ⟨rfl, rfl⟩)
      go_ret
      exact ⟨rfl, HB2.out.trans (HT6.out.bel.mono HB2.out.size)⟩
    · obtain rfl : m = 0 := HM6.out.2.2 (by omega)
      go_wp2_with (go_at_call 34; have hq := HLk.out _ _ _ _ _ _ _ HT6.out; refine hq.mono ?_; clear hq; rintro e w12 ⟨rfl, rfl⟩)
      go_ret
      exact ⟨rfl, HB2.out.trans (HT6.out.bel.mono HB2.out.size)⟩)
theorem tablenear_any (v : Value) (l : List CT) (d : CT) (most : Int) (w : World) (h : ClA w v l) (hlen : l.length ≤ 1466015503658) (hv : ∀ c ∈ l, inI c.vn) (hvd : inI d.vn) (hL : LaidU w) :
    Calls Tryz.prog 8 #[v, d.v, .int .i64 most] w fun e w' => e = .returned (.bool true) ∧ Below w.heap.size w w' := by
  cases hg : longM 120 (l ++ [d]) with
  | true => exact tablenear_long v l d most w h hlen hg hL
  | false =>
    obtain ⟨hl2, hsm⟩ := longM_sm hg (fun c hc => by rcases List.mem_append.1 hc with q | q; exact hv c q; exact (List.mem_singleton.1 q) ▸ hvd)
    rcases Int.lt_or_le most 0 with h0 | h0
    · exact tablenear_below v l d most h0 w h hlen hg hL
    · rcases Int.lt_or_le 1000 most with h1 | h1
      · exact tablenear_above v l d most h1 w h hlen hg hL
      · exact tablenear_in v l d most h0 h1 w h hlen (by rw [List.length_append] at hl2; omega) (fun c hc => hsm c (by simp [hc])) hg hL
end Go.Proofs.YtjbjdkginemedaaGreatDoor

/- TableNear: the first cells from a place on are found by looking at few blocks. The row and its tied card. Conditions: none but the card's own (the listed variables of the library are laid by the program's text). -/
namespace Go.Proofs.YtjbjdkginemedaaGreatDoor.tableNear
open Go.ChangeShapes Go.WideShapes Go.ChangeAt Go.RowKit

set_option maxRecDepth 100000 in
/-- What the walk gives, for every argument and every world that holds the listed variables. -/
theorem contract (H : Type) (enc : TypeId × Value → H) (W : World) (base : Nat) (args : Array Value) (ds gs : List (DataW H)) (before : List MemPlace)
    (hval : ∀ (j : Nat) t v, Tryz.f8.params[j]? = some t → args[j]? = some v → Value.okWide Tryz.prog W .any base t v)
    (hW : DataW.Whole enc Tryz.prog Tryz.f8.params.toList Rows.tableNearSpec.vars false W args.toList ds gs before) (hL : laidMetH Tryz.prog Rows.tableNearRow.laid W) (hz : (DataW.weightsEach Tryz.prog (Tryz.f8.params.toList ++ (OpenSpec.ofChange Rows.tableNearSpec).bare.plain.varTypes Tryz.prog) (ds ++ gs)).all (· ≤ reachBytes) = true) :
    Calls Tryz.prog 8 args W fun e W' => ∃ v, e = .returned v ∧ Rows.tableNearSpec.post enc Tryz.prog Tryz.f8 false true false false W args v W' := by
  have hW' := hW
  obtain ⟨p, q, hA0, hV, rfl, hfz, hnd⟩ := hW
  have hA : DataW.TrodAll enc Tryz.prog W 0 (fun _ => true) true Tryz.f8.params.toList args.toList ds p := hA0
  rw [Tryz.params8] at hA hval hz
  obtain ⟨v0, vs0, d0, ds0, p0, q_0, hargs, rfl, rfl, h0, r_0⟩ := trodAll_cons hA
  obtain ⟨v1, vs1, d1, ds1, p1, q_1, rfl, rfl, rfl, h1, r_1⟩ := trodAll_cons r_0
  obtain ⟨v2, vs2, d2, ds2, p2, q_2, rfl, rfl, rfl, h2, r_2⟩ := trodAll_cons r_1
  obtain ⟨rfl, rfl, rfl⟩ := trodAll_nil r_2
  obtain rfl : args = #[v0, v1, v2] := by cases args; simp_all
  obtain ⟨rfl, rfl⟩ := trodVars_none hV
  obtain ⟨l0, hs0, hv0, hb0⟩ := open_cla2 (hval 0 22 v0 rfl rfl) h0 (fun n hn => of_decide_eq_true (List.all_eq_true.1 hz n (DataW.weights_mem_each (j := 0) (t := 22) (d := d0) rfl rfl n hn)))
  obtain ⟨r1, f1, q1, t1, k1, vk1, vn1, s1, rfl, rfl, rfl, wr1, wf1, wq1, wt1, wk1, wvk1, wn1, ws1⟩ := open_cell (hval 1 26 v1 rfl rfl) h1
  have hr1 : r1.size ≤ 9223372036854775807 := size_of wr1
  have hf1 : f1.size ≤ 9223372036854775807 := size_of wf1
  have hq1 : q1.size ≤ 9223372036854775807 := size_of wq1
  have hs1 : s1.size ≤ 9223372036854775807 := size_of ws1
  obtain ⟨c2, rfl, rfl, rfl, wc2⟩ := open_int Tryz.underlying3 (hval 2 3 v2 rfl rfl) h2
  clear hA0
  simp only [List.append_nil] at hW'
  have hL2 : LaidU W := laid_u (seat_met5 hL)
  have hlt0 : ∀ x ∈ p0, x.block < W.heap.size := fun x hx => by simpa using hW'.lt x (by simp [hx])
  refine (tablenear_any v0 l0 ⟨r1, f1, q1, t1, k1, vk1, vn1, s1⟩ c2 W hs0 hb0 hv0 (inI_of_wf2 wn1) hL2).mono fun e W' ⟨he, hg⟩ => ?_
  subst he
  exact ⟨_, rfl, _, _, _, [], (p0 ++ ([] ++ ([] ++ []))), [], hW', trodAll_cons_mk (shut_bool Tryz.underlying4 _) trodAll_mk0, (trodAll_cons_mk (Below.trod laid_out (by kernel_rfl) (of_decide_eq_true (by kernel_rfl)) h0 hg hlt0) (trodAll_cons_mk (shut_cell r1 f1 q1 t1 k1 vk1 vn1 s1 wr1 wf1 wq1 wt1 wk1 wvk1 wn1 ws1 0) (trodAll_cons_mk (shut_int Tryz.underlying3 wc2) trodAll_mk0))), rfl, hg.frame _, fun h => by cases h⟩

theorem reads (os : Os) (H : Type) (enc : TypeId × Value → H) : ∃ places, DataW.whole enc Tryz.prog ((laidWorld5 os).forCall (fun _ _ => 0) ⟨#[], #[.slice none 0 0, .agg #[.string ByteArray.empty, .string ByteArray.empty, .string ByteArray.empty, .int .i64 0, .int .i64 0, .int .i64 0, .int .i64 0, .string ByteArray.empty], .int .i64 0], []⟩).memory Tryz.f8.params.toList Rows.tableNearSpec.vars false #[Value.slice none 0 0, Value.agg #[.string ByteArray.empty, .string ByteArray.empty, .string ByteArray.empty, .int .i64 0, .int .i64 0, .int .i64 0, .int .i64 0, .string ByteArray.empty], Value.int .i64 0].toList 12 = some ([.nil, .agg [.lit (.string []), .lit (.string []), .lit (.string []), .lit (.int .i64 0), .lit (.int .i64 0), .agg [.lit (.int .i64 0), .lit (.int .i64 0), .lit (.string [])]], .lit (.int .i64 0)], [], places) :=
  ⟨[], by kernel_rfl⟩

set_option maxRecDepth 100000 in
theorem lifted (os : Os) (started : os.Started) (H : Type) (enc : TypeId × Value → H) (F : Stop.Interp) :
    ReturnsInHanded {} Tryz.checked os 8 .any ((OpenSpec.ofChange Rows.tableNearSpec).preRow enc Tryz.prog Tryz.f8 Rows.tableNearRow.domain false Rows.tableNearRow.laid) (((OpenSpec.ofChange Rows.tableNearSpec).at F).post enc Tryz.prog Tryz.f8 false true false false) := by
  obtain ⟨places, hx⟩ := reads os H enc
  refine returnsInHanded_of_row (C := Tryz.checked) (s := OpenSpec.ofChange Rows.tableNearSpec) seat_own started (by kernel_rfl) Tryz.func8
    (witness_row_at (enc := enc) (C := Tryz.checked) false (laidWorld5 os) #[.slice none 0 0, .agg #[.string ByteArray.empty, .string ByteArray.empty, .string ByteArray.empty, .int .i64 0, .int .i64 0, .int .i64 0, .int .i64 0, .string ByteArray.empty], .int .i64 0] rfl (by kernel_rfl) (by kernel_rfl) (by kernel_rfl)
      (OpenSpec.preRow_of_cond 12 hx (by kernel_rfl) (fun k hk => by cases hk) (by kernel_rfl) (laid_met5 os _))) ?_
  intro W base args ds gs before hval hW _ _ hz hL _ _
  exact contract H enc W base args ds gs before hval hW hL hz

theorem said : Rows.TableNearSaid :=
  OpenClaim.holds_of_cond 8 Tryz.f8 rfl rfl rfl rfl rfl rfl rfl ⟨rfl, rfl, rfl, rfl, rfl⟩ rfl rfl rfl rfl rfl (by kernel_rfl) Tryz.func8 (by kernel_rfl)
    (of_decide_eq_true (by kernel_rfl)) (by unfold Func.isWrapper; first | (rw [if_pos (by decide +kernel)]; kernel_rfl) | (rw [if_neg (by decide +kernel)]; exact ⟨rfl, rfl⟩))
    (fun os started H enc _ F => by rw [OpenClaim.pre_eq_preRow]; exact lifted os started H enc F)

theorem plain (f : FuncId) (fn : Func) (hf : Tryz.pinned.checked.prog.funcNamed "joist/joistlaw09.TableNear" = some f) (hfn : Tryz.pinned.checked.prog.funcs[f]? = some fn) :
    true = Tryz.pinned.checked.prog.looks [] ∧ ∀ (j : Nat) t, fn.params[j]? = some t → Tryz.pinned.checked.prog.wantsStandIn t = false := by
  obtain rfl : f = 8 := Option.some.inj ((show Tryz.prog.funcNamed "joist/joistlaw09.TableNear" = some 8 by kernel_rfl).symm.trans hf) |>.symm
  obtain rfl : fn = Tryz.f8 := (Option.some.inj (Tryz.func8.symm.trans hfn)).symm
  refine ⟨by kernel_rfl, fun j t ht => ?_⟩
  rw [Tryz.params8] at ht
  have hm := Array.mem_of_getElem? ht
  rcases (show t = 22 ∨ t = 26 ∨ t = 3 by simpa using hm) with rfl | rfl | rfl
  · exact (show Tryz.prog.wantsStandIn 22 = false by kernel_rfl)
  · exact (show Tryz.prog.wantsStandIn 26 = false by kernel_rfl)
  · exact (show Tryz.prog.wantsStandIn 3 = false by kernel_rfl)

/-- THE CARD. -/
theorem card : Rows.TableNearCardSaid :=
  Claim7.holds_tied_plain_at .later [] _ _ _ _ said (fun _ h => by cases h) (by kernel_rfl) (fun _ h => by cases h) tableNear_row_tie rfl ⟨rfl, rfl⟩ (by kernel_rfl) rfl plain (by kernel_rfl)
end Go.Proofs.YtjbjdkginemedaaGreatDoor.tableNear
namespace Go.Proofs.YtjbjdkginemedaaGreatDoor
theorem tableNear_card : Rows.TableNearCardSaid := tableNear.card
end Go.Proofs.YtjbjdkginemedaaGreatDoor
