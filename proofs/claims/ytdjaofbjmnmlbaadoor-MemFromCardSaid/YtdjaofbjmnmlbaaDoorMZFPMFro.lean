/- Several texts in one: ZF PMFro. Conditions: as each theorem names them. -/
import Derived.Test.YtdjaofbjmnmlbaaDoorMECZC
import Derived.Test.YtdjaofbjmnmlbaaDoorMIAYP
import Derived.RangeFuncBox
import Derived.Deep.RegionLaw
import Derived.Deep.RegionWith
import Derived.Deep.RegionHeld3
import Derived.Deep.QuietTactic
/- The statement of layer 7: what is told from a place on is what isn't ahead of it, and stopped anywhere it is a beginning. Conditions: the arguments stand, their numbers are of 64 bits; the tables of utf8 read as they are laid. -/
namespace Go.Proofs.YtdjaofbjmnmlbaaDoor
open Go.RowKit Go.Shelf
attribute [local go_sem] Oper.semAt_some

theorem cla_take {w : World} {A : Option Addr} {n c : Nat} {l : List CT} (h : ClA w (.slice A n c) l) (k : Nat) (hk : k ≤ l.length) : ClA w (.slice A k c) (l.take k) := by
  obtain ⟨A', c', e, h1, h2, h3⟩ := h
  injection e with e1 e2 e3
  subst e1 e3
  have hl : (l.take k).length = k := by rw [List.length_take]; omega
  refine ⟨A, c, by rw [hl], by rw [hl]; omega, h2, fun h0 => ?_⟩
  rw [hl] at h0
  obtain ⟨b, off, e, hh⟩ := h3 (by omega)
  refine ⟨b, off, e, fun i hi j hj => ?_⟩
  rw [hl] at hi
  have := hh i (by omega) j hj
  rw [List.getElem_take]
  exact this
theorem take_done {F : List CT} {most : Int} (h : (F.length : Int) ≤ most ∨ F = []) : F = F.take most.toNat := by
  rcases h with h | rfl
  · rw [List.take_of_length_le (by omega)]
  · rw [List.take_nil]
theorem take_stop {F p : List CT} {most : Int} (h : p <+: F) (h1 : ((p.dropLast).length : Int) ≤ most ∨ p.dropLast = []) (h2 : most ≤ ((p.dropLast).length : Int)) : p.dropLast = F.take most.toNat := by
  have h3 : p.dropLast <+: F := (List.dropLast_prefix p).trans h
  have h4 := List.prefix_iff_eq_take.1 h3
  have h5 : (p.dropLast).length = most.toNat := by
    rcases h1 with h1 | h1
    · omega
    · rw [h1] at h2 ⊢
      simp at h2 ⊢
      omega
  rw [h5] at h4
  exact h4
section
variable {w9 W W' : World} {p q : Nat} {x y : Value}
abbrev Fin2 (w9 : World) (p q : Nat) (x y : Value) (W : World) : Prop := Hid (Below w9.heap.size w9 W ∧ p < w9.heap.size ∧ q < w9.heap.size) ∧ W.cell? ⟨p, 0, none⟩ = some x ∧ W.cell? ⟨q, 0, none⟩ = some y
theorem fin2_below (h : Fin2 w9 p q x y W) : Below w9.heap.size w9 W := h.1.out.1
theorem fin2_drew (h : Fin2 w9 p q x y W) : Fin2 w9 p q x y W.drew := ⟨hid ⟨h.1.out.1.drew, h.1.out.2⟩, h.2⟩
theorem fin2_call (h : Fin2 w9 p q x y W) (hb : Below W.heap.size W W') : Fin2 w9 p q x y W' := by
  obtain ⟨hh, a, b⟩ := h
  obtain ⟨hbw, h1, h2⟩ := hh.out
  have hz := hbw.size
  exact ⟨hid ⟨hbw.trans (hb.mono hz), h1, h2⟩, (hb.cell (p := ⟨p, 0, none⟩) (show p < W.heap.size by omega)).trans a, (hb.cell (p := ⟨q, 0, none⟩) (show q < W.heap.size by omega)).trans b⟩
end

set_option maxHeartbeats 40000000 in
set_option maxRecDepth 100000 in
theorem memfrom_any (v : Value) (l : List CT) (c : CT) (most : Int) (w : World) (h : ClA w v l) (hlen : l.length ≤ 1466015503658) (hv : ∀ c ∈ l, inI c.vn) (hvc : inI c.vn) (hL : LaidU w) :
    Calls Tryd.prog 8 #[v, c.v, .int .i64 most] w fun e w' => e = .returned (.bool true) ∧ Below w.heap.size w w' := by
  have mixed : Tryd.prog.follows .mixedOrders = true := by kernel_rfl
  have HA := hid fun W (hb : Below w.heap.size w W) => malive_any W (hL.below hb)
  have HCp : Hid (∀ W, Below w.heap.size w W → Calls Tryd.prog 28 #[v] W fun e w' => ∃ v', e = .returned v' ∧ CRow w' W.heap.size v' l ∧ Below W.heap.size W w') := fun W hb => copycells_any v l hlen W (h.below hb)
  have HLg : Hid (∀ W v', ClA W v' (l ++ [c]) → Calls Tryd.prog 33 #[v', .int .i64 200] W fun e w' => e = .returned (.bool (longM 200 (l ++ [c]))) ∧ Below W.heap.size W w') := fun W v' h => longcells_at 200 v' (l ++ [c]) W h
  have HLen := hid hlen
  cases hg : longM 200 (l ++ [c]) with
  | true =>
    rw [hg] at HLg
    clear h hv hL hg hlen
    refine callsIn_wide.1 (callsIn_of_wp_marks (n := 6) Tryd.func8 rfl trivial ?_ rfl)
    refine wpIn_wide.2 ?_
    simp only [Tryd.ntmps8, List.size_toArray, List.length_cons, List.length_nil, Nat.reduceAdd, Nat.reduceSub, Array.replicate_succ, Array.replicate_zero, List.push_toArray, List.append_toArray, List.nil_append, List.cons_append]
    have HW2 : Hid (Below w.heap.size w ((w.alloc (.cells c.e.toArray 28)).alloc (.cells #[.int .i64 most] 3)) ∧ DW ((w.alloc (.cells c.e.toArray 28)).alloc (.cells #[.int .i64 most] 3)) w.heap.size c ∧ Blk ((w.alloc (.cells c.e.toArray 28)).alloc (.cells #[.int .i64 most] 3)) (w.heap.size + 1) 3 #[.int .i64 most] ∧ ((w.alloc (.cells c.e.toArray 28)).alloc (.cells #[.int .i64 most] 3)).heap.size = w.heap.size + 1 + 1) := by
      have k1 := Blk.new w 28 c.e.toArray
      have s1 : (w.alloc (.cells c.e.toArray 28)).heap.size = w.heap.size + 1 := World.size_alloc _ _
      have k2 := Blk.new (w.alloc (.cells c.e.toArray 28)) 3 #[.int .i64 most]
      have b2 := below_new (w.alloc (.cells c.e.toArray 28)) (.cells #[.int .i64 most] 3)
      rw [s1] at k2
      exact ⟨(below_new w _).trans (b2.mono (by omega)), k1.keep b2 (by omega), k2, by rw [World.size_alloc, s1]⟩
    go_upto_region 1 with (fail)
    refine wp_ltc (fun W => Hid (Below w.heap.size w W ∧ DW W w.heap.size c ∧ Blk W (w.heap.size + 1) 3 #[.int .i64 most] ∧ W.heap.size = w.heap.size + 1 + 1)) HW2.out (fun W0 HW0 => ?_)
    clear HW2
    go_upto_region 3 with (go_at_call 32; refine (HA.out _ HW0.out.1).mono ?_; rintro e w5 ⟨rfl, hb5⟩)
    have HB5 : Hid (Below w.heap.size w w5) := HW0.out.1.trans (hb5.mono HW0.out.1.size)
    have HD5 : Hid (DW w5 w.heap.size c) := DW.below HW0.out.2.1 hb5
    have HM5 : Hid (Blk w5 (w.heap.size + 1) 3 #[.int .i64 most]) := HW0.out.2.2.1.keep hb5 HW0.out.2.2.1.lt
    have HX5 : Hid (w.heap.size + 1 < w5.heap.size) := by have := hb5.size; have := HW0.out.2.2.2; show _ < _; omega
    have HG5 : Hid (w.heap.size < w5.heap.size) := Nat.lt_of_succ_lt HX5.out
    clear hb5 HW0
    obtain ⟨x0, x1, x2, x3, x4, x5, x6, x7⟩ := DW.words HD5.out
    have HBd : Hid (Below w.heap.size w w5.drew) := HB5.out.drew
    have HDd : Hid (DW w5.drew w.heap.size c) := DW.below HD5.out (Below.refl _ _).drew
    have HBa : Hid (∀ t, Below w.heap.size w (w5.drew.alloc (.cells #[.string c.r, .string c.f, .string c.q, .int .i64 c.t, .int .i64 c.k, .int .i64 c.vk, .int .i64 c.vn, .string c.s] t))) := fun t => HBd.out.trans ((below_new _ _).mono (by show w.heap.size ≤ w5.heap.size; exact Nat.le_of_lt HG5.out))
    have HDa : Hid (∀ t, DW (w5.drew.alloc (.cells #[.string c.r, .string c.f, .string c.q, .int .i64 c.t, .int .i64 c.k, .int .i64 c.vk, .int .i64 c.vn, .string c.s] t)) w.heap.size c) := fun t => DW.below HDd.out (below_new _ _)
    have HDn : Hid (DW (w5.drew.alloc (.cells #[.string c.r, .string c.f, .string c.q, .int .i64 c.t, .int .i64 c.k, .int .i64 c.vk, .int .i64 c.vn, .string c.s] 28)) w5.drew.heap.size c) := Blk.new w5.drew 28 c.e.toArray
    obtain ⟨y0, y1, y2, y3, y4, y5, y6, y7⟩ := DW.words HDd.out
    (first | (go_region_law (first
      | (go_simp; go_at_call 28; refine (HCp.out _ ?_).mono ?_; (first | exact HBd.out | exact HBa.out _); rintro e w6 ⟨v6, rfl, hr6, hb6⟩; have hd6 : DW w6 w.heap.size c := (by first | exact DW.below HDd.out hb6 | exact DW.below (HDa.out _) hb6); have HD6 := hid hd6; obtain ⟨z0, z1, z2, z3, z4, z5, z6, z7⟩ := DW.words hd6; have HB6 : Hid (Below w.heap.size w w6 ∧ w5.heap.size ≤ w6.heap.size) := (by first | exact ⟨HBd.out.trans (hb6.mono HBd.out.size), hb6.size⟩ | exact ⟨(HBa.out _).trans (hb6.mono (HBa.out _).size), Nat.le_trans (by simp) hb6.size⟩); have HZ6 : Hid (Below w5.heap.size w5 w6) := (by first | exact (Below.refl _ w5).drew.trans hb6 | exact (Below.refl _ w5).drew.trans ((below_new w5.drew _).trans (hb6.mono (by simp)))); have HR6 : Hid (CRow w6 w5.heap.size v6 l) := (by first | exact hr6 | exact hr6.le (by simp)); clear hd6)
      | (refine step_append_cell rfl (.tmp 16) (.tmp 18) rfl _ w5.heap.size v6 l rfl ?_ _ 1 rfl c ?_ HLen.out ?_ ?_; (first | exact HR6.out | exact World.ownsRow.alloc HR6.out _); (first | exact ct_dw (Blk.new w6 28 c.e.toArray) | exact ct_dw (DW.below HDn.out hb6)); (have := HB6.out.2; simp; omega); intro v7 w7 hr7 hb7; have HD7 : Hid (DW w7 w.heap.size c) := (by first | exact DW.keep HD6.out hb7 HG5.out | exact DW.keep (DW.below HD6.out (below_new _ _)) hb7 HG5.out); have HB7 : Hid (Below w.heap.size w w7) := (by first | exact HB6.out.1.trans (hb7.mono (Nat.le_of_lt HG5.out)) | exact (HB6.out.1.trans ((below_new _ _).mono HB6.out.1.size)).trans (hb7.mono (Nat.le_of_lt HG5.out))); have HZ7 : Hid (Below w5.heap.size w5 w7) := (by first | exact HZ6.out.trans hb7 | exact (HZ6.out.trans ((below_new _ _).mono HZ6.out.size)).trans hb7); have HC7 := hid hr7.cla; obtain ⟨t0, t1, t2, t3, t4, t5, t6, t7⟩ := DW.words HD7.out)
      | (go_simp; go_at_call 33; refine (HLg.out _ _ ?_).mono ?_; exact HC7.out; rintro e w8 ⟨rfl, hb8⟩; have HD8 := hid (DW.below HD7.out hb8); have HB8 := hid (HB7.out.trans (hb8.mono HB7.out.size)); have HZ8 := hid (HZ7.out.trans (hb8.mono HZ7.out.size)); obtain ⟨r0, r1, r2, r3, r4, r5, r6, r7⟩ := DW.words HD8.out))) | fail)
    all_goals (
      go_wp2
      exact ⟨_, results_tmp rfl _ _ _, rfl, HB8.out⟩)
  | false =>
    rw [hg] at HLg
    obtain ⟨hl2, hok⟩ := longM_ok hg (fun x hx => by rcases List.mem_append.1 hx with q | q; exact hv x q; exact (List.mem_singleton.1 q) ▸ hvc)
    have HSc : Hid (Sm c) := hok c (by simp)
    have HSl : Hid (∀ x ∈ l, Sm x) := fun x hx => hok x (List.mem_append_left _ hx)
    have HLa := hid hL
    obtain ⟨A, cc, rfl, hc1, hc2, hh⟩ := h
    obtain ⟨n, hn⟩ : ∃ n, l.length = n := ⟨_, rfl⟩
    have HN := hid hn
    have hn200 : n ≤ 200 := by rw [List.length_append, List.length_singleton] at hl2; omega
    rw [hn] at hc1
    have HH := hid hh
    have hvs : (Value.slice A l.length cc) = .slice A n cc := by rw [hn]
    rw [hvs] at HCp ⊢
    clear hh hv hL hg hlen hok hl2 hn hvs
    refine callsIn_wide.1 (callsIn_of_wp_marks (n := 6) Tryd.func8 rfl trivial ?_ rfl)
    refine wpIn_wide.2 ?_
    simp only [Tryd.ntmps8, List.size_toArray, List.length_cons, List.length_nil, Nat.reduceAdd, Nat.reduceSub, Array.replicate_succ, Array.replicate_zero, List.push_toArray, List.append_toArray, List.nil_append, List.cons_append]
    have HW2 : Hid (Below w.heap.size w ((w.alloc (.cells c.e.toArray 28)).alloc (.cells #[.int .i64 most] 3)) ∧ DW ((w.alloc (.cells c.e.toArray 28)).alloc (.cells #[.int .i64 most] 3)) w.heap.size c ∧ Blk ((w.alloc (.cells c.e.toArray 28)).alloc (.cells #[.int .i64 most] 3)) (w.heap.size + 1) 3 #[.int .i64 most] ∧ ((w.alloc (.cells c.e.toArray 28)).alloc (.cells #[.int .i64 most] 3)).heap.size = w.heap.size + 1 + 1) := by
      have k1 := Blk.new w 28 c.e.toArray
      have s1 : (w.alloc (.cells c.e.toArray 28)).heap.size = w.heap.size + 1 := World.size_alloc _ _
      have k2 := Blk.new (w.alloc (.cells c.e.toArray 28)) 3 #[.int .i64 most]
      have b2 := below_new (w.alloc (.cells c.e.toArray 28)) (.cells #[.int .i64 most] 3)
      rw [s1] at k2
      exact ⟨(below_new w _).trans (b2.mono (by omega)), k1.keep b2 (by omega), k2, by rw [World.size_alloc, s1]⟩
    go_upto_region 1 with (fail)
    refine wp_ltc (fun W => Hid (Below w.heap.size w W ∧ DW W w.heap.size c ∧ Blk W (w.heap.size + 1) 3 #[.int .i64 most] ∧ W.heap.size = w.heap.size + 1 + 1)) HW2.out (fun W0 HW0 => ?_)
    clear HW2
    go_upto_region 3 with (go_at_call 32; refine (HA.out _ HW0.out.1).mono ?_; rintro e w5 ⟨rfl, hb5⟩)
    have HB5 : Hid (Below w.heap.size w w5) := HW0.out.1.trans (hb5.mono HW0.out.1.size)
    have HD5 : Hid (DW w5 w.heap.size c) := DW.below HW0.out.2.1 hb5
    have HM5 : Hid (Blk w5 (w.heap.size + 1) 3 #[.int .i64 most]) := HW0.out.2.2.1.keep hb5 HW0.out.2.2.1.lt
    have HX5 : Hid (w.heap.size + 1 < w5.heap.size) := by have := hb5.size; have := HW0.out.2.2.2; show _ < _; omega
    have HG5 : Hid (w.heap.size < w5.heap.size) := Nat.lt_of_succ_lt HX5.out
    clear hb5 HW0
    rename_i K3 a3 K0 a0
    suffices HEND : Hid (∀ (w8 : World) (t15 t16 t17 t18 t19 : Value), Below w.heap.size w w8 → DW w8 w.heap.size c → Blk w8 (w.heap.size + 1) 3 #[.int .i64 most] → w.heap.size + 1 < w8.heap.size → K3 { tmps := List.toArray (.slice A n cc :: c.v :: .int .i64 most :: undef :: .pointer (some ⟨w.heap.size, 0, none⟩) :: .pointer (some ⟨w.heap.size + 1, 0, none⟩) :: .bool false :: undef :: undef :: undef :: undef :: undef :: undef :: .bool true :: .bool false :: t15 :: t16 :: t17 :: t18 :: t19 :: .bool false :: undef :: undef :: undef :: undef :: undef :: undef :: undef :: undef :: undef :: undef :: undef :: undef :: undef :: undef :: undef :: undef :: undef :: undef :: undef :: undef :: undef :: undef :: undef :: undef :: undef :: undef :: undef :: undef :: undef :: undef :: undef :: undef :: undef :: undef :: undef :: undef :: undef :: undef :: undef :: undef :: undef :: undef :: undef :: undef :: undef :: undef :: undef :: undef :: undef :: undef :: []), defers := [] } w8) by
      clear HSc HSl HLa HH HN a3
      obtain ⟨x0, x1, x2, x3, x4, x5, x6, x7⟩ := DW.words HD5.out
      have HBd : Hid (Below w.heap.size w w5.drew) := HB5.out.drew
      have HDd : Hid (DW w5.drew w.heap.size c) := DW.below HD5.out (Below.refl _ _).drew
      have HBa : Hid (∀ t, Below w.heap.size w (w5.drew.alloc (.cells #[.string c.r, .string c.f, .string c.q, .int .i64 c.t, .int .i64 c.k, .int .i64 c.vk, .int .i64 c.vn, .string c.s] t))) := fun t => HBd.out.trans ((below_new _ _).mono (by show w.heap.size ≤ w5.heap.size; exact Nat.le_of_lt HG5.out))
      have HDa : Hid (∀ t, DW (w5.drew.alloc (.cells #[.string c.r, .string c.f, .string c.q, .int .i64 c.t, .int .i64 c.k, .int .i64 c.vk, .int .i64 c.vn, .string c.s] t)) w.heap.size c) := fun t => DW.below HDd.out (below_new _ _)
      have HDn : Hid (DW (w5.drew.alloc (.cells #[.string c.r, .string c.f, .string c.q, .int .i64 c.t, .int .i64 c.k, .int .i64 c.vk, .int .i64 c.vn, .string c.s] 28)) w5.drew.heap.size c) := Blk.new w5.drew 28 c.e.toArray
      obtain ⟨y0, y1, y2, y3, y4, y5, y6, y7⟩ := DW.words HDd.out
      (first | (go_region_law (first
        | (go_simp; go_at_call 28; refine (HCp.out _ ?_).mono ?_; (first | exact HBd.out | exact HBa.out _); rintro e w6 ⟨v6, rfl, hr6, hb6⟩; have hd6 : DW w6 w.heap.size c := (by first | exact DW.below HDd.out hb6 | exact DW.below (HDa.out _) hb6); have HD6 := hid hd6; obtain ⟨z0, z1, z2, z3, z4, z5, z6, z7⟩ := DW.words hd6; have HB6 : Hid (Below w.heap.size w w6 ∧ w5.heap.size ≤ w6.heap.size) := (by first | exact ⟨HBd.out.trans (hb6.mono HBd.out.size), hb6.size⟩ | exact ⟨(HBa.out _).trans (hb6.mono (HBa.out _).size), Nat.le_trans (by simp) hb6.size⟩); have HZ6 : Hid (Below w5.heap.size w5 w6) := (by first | exact (Below.refl _ w5).drew.trans hb6 | exact (Below.refl _ w5).drew.trans ((below_new w5.drew _).trans (hb6.mono (by simp)))); have HR6 : Hid (CRow w6 w5.heap.size v6 l) := (by first | exact hr6 | exact hr6.le (by simp)); clear hd6)
        | (refine step_append_cell rfl (.tmp 16) (.tmp 18) rfl _ w5.heap.size v6 l rfl ?_ _ 1 rfl c ?_ HLen.out ?_ ?_; (first | exact HR6.out | exact World.ownsRow.alloc HR6.out _); (first | exact ct_dw (Blk.new w6 28 c.e.toArray) | exact ct_dw (DW.below HDn.out hb6)); (have := HB6.out.2; simp; omega); intro v7 w7 hr7 hb7; have HD7 : Hid (DW w7 w.heap.size c) := (by first | exact DW.keep HD6.out hb7 HG5.out | exact DW.keep (DW.below HD6.out (below_new _ _)) hb7 HG5.out); have HB7 : Hid (Below w.heap.size w w7) := (by first | exact HB6.out.1.trans (hb7.mono (Nat.le_of_lt HG5.out)) | exact (HB6.out.1.trans ((below_new _ _).mono HB6.out.1.size)).trans (hb7.mono (Nat.le_of_lt HG5.out))); have HZ7 : Hid (Below w5.heap.size w5 w7) := (by first | exact HZ6.out.trans hb7 | exact (HZ6.out.trans ((below_new _ _).mono HZ6.out.size)).trans hb7); have HC7 := hid hr7.cla; obtain ⟨t0, t1, t2, t3, t4, t5, t6, t7⟩ := DW.words HD7.out)
        | (go_simp; go_at_call 33; refine (HLg.out _ _ ?_).mono ?_; exact HC7.out; rintro e w8 ⟨rfl, hb8⟩; have HD8 := hid (DW.below HD7.out hb8); have HB8 := hid (HB7.out.trans (hb8.mono HB7.out.size)); have HZ8 := hid (HZ7.out.trans (hb8.mono HZ7.out.size)); obtain ⟨r0, r1, r2, r3, r4, r5, r6, r7⟩ := DW.words HD8.out))) | fail)
      all_goals (
        have HG8 : Hid (w.heap.size + 1 < w8.heap.size) := Nat.lt_of_lt_of_le HX5.out HZ8.out.size
        have HM8 : Hid (Blk w8 (w.heap.size + 1) 3 #[.int .i64 most]) := HM5.out.keep HZ8.out HX5.out
        go_wp2
        exact HEND.out _ _ _ _ _ _ HB8.out HD8.out HM8.out HG8.out)
    intro w8 t15 t16 t17 t18 t19 hB8 hD8 hM8 hG8
    have HB8 := hid hB8
    have HD8 := hid hD8
    have HM8 := hid hM8
    have HG8 := hid hG8
    clear hB8 hD8 hM8 hG8 HA HLg HCp HLen a0 HB5 HD5 HM5 HX5 HG5
    refine a3 _ _ ?_
    clear a3
    go_wp2_with (go_at_call 34; refine (new_any _).mono ?_; rintro e w1 ⟨mb, rfl, hM1, hb1⟩; have HS0 := hid (me2_new hM1 hb1 rfl rfl); clear hM1 hb1)
    go_loopw [9] (fun vi wr => ∃ (i : Nat) (rv : Value) (d : List CT), i ≤ n ∧ vi = .int .i64 i ∧ d.length ≤ i ∧ Me2 w8.heap.size mb w1.heap.size rv d d w8 wr) (fun vi _ => n - (intOf vi).toNat)
    case atStart => exact ⟨0, _, [], Nat.zero_le _, rfl, Nat.le_refl _, HS0.out⟩
    case round =>
      clear HS0
      obtain ⟨i, rv, d, hi, rfl, hd, HS⟩ := hrel
      by_cases hlt : i < n
      · have hin : i < l.length := by rw [HN.out]; exact hlt
        obtain ⟨b, off, e, hhc⟩ := HH.out (by rw [HN.out]; omega)
        subst e
        have hbw : b < w.heap.size := hhc.lt (by rw [HN.out]; omega)
        have hltz : (i : Int) < (n : Int) := by omega
        obtain ⟨x, hx⟩ : ∃ x, l[i]? = some x := ⟨_, List.getElem?_eq_getElem hin⟩
        have HSx := hid (HSl.out x (List.mem_of_getElem? hx))
        have HWx : Hid (∀ W, Below w8.heap.size w8 W → W.cell? ⟨b, off + i * 8, none⟩ = some (.string x.r) ∧ W.cell? ⟨b, off + i * 8 + 1, none⟩ = some (.string x.f) ∧ W.cell? ⟨b, off + i * 8 + 2, none⟩ = some (.string x.q) ∧ W.cell? ⟨b, off + i * 8 + 3, none⟩ = some (.int .i64 x.t) ∧ W.cell? ⟨b, off + i * 8 + 4, none⟩ = some (.int .i64 x.k) ∧ W.cell? ⟨b, off + i * 8 + 5, none⟩ = some (.int .i64 x.vk) ∧ W.cell? ⟨b, off + i * 8 + 6, none⟩ = some (.int .i64 x.vn) ∧ W.cell? ⟨b, off + i * 8 + 7, none⟩ = some (.string x.s)) := fun W hb => ct_words (hhc.below (HB8.out.trans (hb.mono HB8.out.size)) hbw) i hx
        have HP1 : Hid (Calls Tryd.prog 35 #[.pointer (some ⟨mb, 0, none⟩), x.v] wr fun e w' => e = .returned (.bool x.ok) ∧ Me2 w8.heap.size mb w1.heap.size rv (putR d x) d w8 w') := me2_put HS (HLa.out.below HB8.out) (Nat.le_refl _) HSx.out (by omega)
        have HP2 : Hid (∀ W, Me2 w8.heap.size mb w1.heap.size rv (putR d x) d w8 W → Calls Tryd.prog 36 #[.pointer (some ⟨w1.heap.size, 0, none⟩), x.v] W fun e w' => e = .returned (.bool x.ok) ∧ ∃ v', Me2 w8.heap.size mb w1.heap.size v' (putR d x) (putR d x) w8 w') := fun W h => me2_ref h HSx.out (by omega)
        have hn9i : (putR d x).length ≤ i + 1 := by have := putR_len d x; omega
        obtain ⟨x0, x1, x2, x3, x4, x5, x6, x7⟩ := HWx.out wr HS.out.2.2.1.b
        clear hhc hin hx HS HSx
        go_wp2_with (first
          | (go_at_call 35; refine HP1.out.mono ?_; rintro e w9 ⟨rfl, HS9⟩; have HT9 := hid HS9; clear HS9; obtain ⟨z0, z1, z2, z3, z4, z5, z6, z7⟩ := HWx.out w9 HT9.out.out.2.2.1.b)
          | (go_at_call 36; refine (HP2.out _ HT9.out).mono ?_; rintro e wA ⟨rfl, rv2, HSA⟩; have HTA := hid HSA; clear HSA))
        clear x0 x1 x2 x3 x4 x5 x6 x7 z0 z1 z2 z3 z4 z5 z6 z7 HP1 HP2 HWx
        go_roundw
        case rel => exact ⟨i + 1, _, putR d x, by omega, by go_num, hn9i, HTA.out⟩
        case measure => simp [intOf]; omega
      · obtain rfl : i = n := by omega
        have hd2 : d.length ≤ 200 := by omega
        have HS1 := hid HS
        have HBwr : Hid (Below w.heap.size w wr) := HB8.out.trans (HS.out.2.2.1.b.mono HB8.out.size)
        have HFr : Hid (∀ W, Calls Tryd.prog 45 #[.pointer (some ⟨mb, 0, none⟩), c.v] W fun e w' => e = .returned (.func (.func 86) #[] #[.pointer (some ⟨W.heap.size, 0, none⟩), .pointer (some ⟨W.heap.size + 1, 0, none⟩)]) ∧ w' = (W.alloc (.cells #[.pointer (some ⟨mb, 0, none⟩)] 52)).alloc (.cells c.e.toArray 28)) := fun W => callsIn_wide.1 (from_in 5 mb c W)
        have HDr : Hid (DW wr w.heap.size c ∧ Blk wr (w.heap.size + 1) 3 #[.int .i64 most] ∧ w.heap.size + 1 < wr.heap.size) := ⟨DW.keep HD8.out HS.out.2.2.1.b (Nat.lt_of_succ_lt HG8.out), HM8.out.keep HS.out.2.2.1.b HG8.out, Nat.lt_of_lt_of_le HG8.out HS.out.2.2.1.b.size⟩
        clear HS hd
        go_upto_region 13 with (fail)
        have HWa : Hid (Boxed ((wr.alloc (.cells #[] 28)).alloc (.cells #[.slice (some ⟨wr.heap.size, 0, none⟩) 0 0] 39)) (wr.heap.size + 1) 39 (.slice (some ⟨wr.heap.size, 0, none⟩) 0 0) ∧ CRow ((wr.alloc (.cells #[] 28)).alloc (.cells #[.slice (some ⟨wr.heap.size, 0, none⟩) 0 0] 39)) wr.heap.size (.slice (some ⟨wr.heap.size, 0, none⟩) 0 0) [] ∧ Below wr.heap.size wr ((wr.alloc (.cells #[] 28)).alloc (.cells #[.slice (some ⟨wr.heap.size, 0, none⟩) 0 0] 39)) ∧ ((wr.alloc (.cells #[] 28)).alloc (.cells #[.slice (some ⟨wr.heap.size, 0, none⟩) 0 0] 39)).heap.size = wr.heap.size + 1 + 1) := by
          have k0 := empty_crow wr wr.heap.size (Nat.le_refl _)
          have b1 := Boxed.new (wr.alloc (.cells #[] 28)) 39 (.slice (some ⟨wr.heap.size, 0, none⟩) 0 0)
          simp only [World.size_alloc] at b1
          exact ⟨b1, k0.alloc _, (below_new wr _).alloc (by simp) _, by simp only [World.size_alloc]⟩
        refine wp_ltc (fun W => Hid (Boxed W (wr.heap.size + 1) 39 (.slice (some ⟨wr.heap.size, 0, none⟩) 0 0) ∧ CRow W wr.heap.size (.slice (some ⟨wr.heap.size, 0, none⟩) 0 0) [] ∧ Below wr.heap.size wr W ∧ W.heap.size = wr.heap.size + 1 + 1)) HWa.out (fun Wb HWb => ?_)
        clear HWa
        obtain ⟨x0, x1, x2, x3, x4, x5, x6, x7⟩ := DW.words (DW.keep HDr.out.1 HWb.out.2.2.1 (Nat.lt_of_succ_lt HDr.out.2.2))
        obtain ⟨S, hS⟩ : ∃ S, wr.heap.size = S := ⟨_, rfl⟩
        have HSz := hid hS
        have hWs : Wb.heap.size = S + 1 + 1 := by rw [← hS]; exact HWb.out.2.2.2
        have HWs := hid hWs
        rw [hS] at HWb ⊢
        clear hS hWs
        go_upto_region 14 with (go_at_call 45; refine (HFr.out _).mono ?_; rintro e w9 ⟨rfl, rfl⟩)
        have HWd : Hid (Boxed ((Wb.alloc (.cells #[.pointer (some ⟨mb, 0, none⟩)] 52)).alloc (.cells c.e.toArray 28)) (S + 1) 39 (.slice (some ⟨S, 0, none⟩) 0 0) ∧ CRow ((Wb.alloc (.cells #[.pointer (some ⟨mb, 0, none⟩)] 52)).alloc (.cells c.e.toArray 28)) S (.slice (some ⟨S, 0, none⟩) 0 0) [] ∧ Blk ((Wb.alloc (.cells #[.pointer (some ⟨mb, 0, none⟩)] 52)).alloc (.cells c.e.toArray 28)) (S + 1 + 1) 52 #[.pointer (some ⟨mb, 0, none⟩)] ∧ Blk ((Wb.alloc (.cells #[.pointer (some ⟨mb, 0, none⟩)] 52)).alloc (.cells c.e.toArray 28)) (S + 1 + 1 + 1) 28 c.e.toArray ∧ Below S wr ((Wb.alloc (.cells #[.pointer (some ⟨mb, 0, none⟩)] 52)).alloc (.cells c.e.toArray 28)) ∧ ((Wb.alloc (.cells #[.pointer (some ⟨mb, 0, none⟩)] 52)).alloc (.cells c.e.toArray 28)).heap.size = S + 1 + 1 + 1 + 1) := by
          obtain ⟨q1, q2, q3, q4⟩ := HWb.out
          have k2 := Blk.new Wb 52 #[.pointer (some ⟨mb, 0, none⟩)]
          have k3 := Blk.new (Wb.alloc (.cells #[.pointer (some ⟨mb, 0, none⟩)] 52)) 28 c.e.toArray
          have n3 := below_new (Wb.alloc (.cells #[.pointer (some ⟨mb, 0, none⟩)] 52)) (.cells c.e.toArray 28)
          simp only [World.size_alloc, q4] at k2 k3 n3
          refine ⟨(q1.alloc _).alloc _, (q2.alloc _).alloc _, k2.keep n3 (by omega), k3, ?_, by simp only [World.size_alloc, q4]⟩
          exact (q3.alloc (by omega) _).alloc (by simp; omega) _
        rw [HWs.out]
        clear HWs
        refine wp_ltc (fun W => Hid (Boxed W (S + 1) 39 (.slice (some ⟨S, 0, none⟩) 0 0) ∧ CRow W S (.slice (some ⟨S, 0, none⟩) 0 0) [] ∧ Blk W (S + 1 + 1) 52 #[.pointer (some ⟨mb, 0, none⟩)] ∧ Blk W (S + 1 + 1 + 1) 28 c.e.toArray ∧ Below S wr W ∧ W.heap.size = S + 1 + 1 + 1 + 1)) HWd.out (fun Wd HWd2 => ?_)
        clear HWd HWb HFr x0 x1 x2 x3 x4 x5 x6 x7
        obtain ⟨bO, rO, bM, bC, hB0, hsz⟩ := HWd2.out
        have hfl : (fromL d c).length ≤ d.length := List.length_filter_le _ _
        refine (wpIn_wide (n := 6)).1 ?_
        refine wpIn_rangeFunc_ownH rfl (by decide) (gf := 86) (lb := #[.pointer (some ⟨S + 1 + 1, 0, none⟩), .pointer (some ⟨S + 1 + 1 + 1, 0, none⟩)]) rfl trivial (enters_of Tryd.func86 (by kernel_rfl) rfl)
          (from_stops 5 (by omega) (S + 1 + 1) (S + 1 + 1 + 1) mb S _ d c wr Wd HS1.out.out.1 HSz.out hB0 bM bC) belowK_t (belowK_b (by omega)) (Below.refl _ _) (fun _ => rfl)
          (fun pre W => (∃ v, Boxed W (S + 1) 39 v ∧ W.ownsRow S 28 8 v pre.length (flatC pre) ∧ ((pre.length : Int) ≤ most ∨ pre = [])) ∧ Below S wr W)
          (fun ex pre W => (∃ v, Boxed W (S + 1) 39 v ∧ W.ownsRow S 28 8 v (pre.dropLast).length (flatC (pre.dropLast)) ∧ (ex = .exit 2 ∧ (((pre.dropLast).length : Int) ≤ most ∨ pre.dropLast = []) ∧ most ≤ ((pre.dropLast).length : Int))) ∧ Below S wr W)
          (OwnFrom.and (Own.from (holdsRow_own S (S + 1) 39 28 8 (fun pre : List CT => pre.length) (fun pre => flatC pre) (fun pre _ => (pre.length : Int) ≤ most ∨ pre = [])) _) (ownFrom_below (by have := HSz.out; omega) (by omega)))
          (fun ex => OwnFrom.and (Own.from (holdsRow_own S (S + 1) 39 28 8 (fun pre : List CT => (pre.dropLast).length) (fun pre => flatC (pre.dropLast)) (fun pre _ => ex = .exit 2 ∧ (((pre.dropLast).length : Int) ≤ most ∨ pre.dropLast = []) ∧ most ≤ ((pre.dropLast).length : Int))) _) (ownFrom_below (by have := HSz.out; omega) (by omega)))
          ⟨⟨_, bO, rO, .inr rfl⟩, hB0⟩
          (fun x a' W => ∃ Bx, S + 1 < Bx ∧ Blk W Bx 28 x.e.toArray ∧ a' = { tmps := List.toArray (.slice A i cc :: c.v :: .int .i64 most :: undef :: .pointer (some ⟨w.heap.size, 0, none⟩) :: .pointer (some ⟨w.heap.size + 1, 0, none⟩) :: .bool false :: .pointer (some ⟨mb, 0, none⟩) :: .pointer (some ⟨w1.heap.size, 0, none⟩) :: .int .i64 i :: .pointer (some ⟨S + 1, 0, none⟩) :: .pointer (some ⟨Bx, 0, none⟩) :: undef :: .bool true :: .bool false :: t15 :: t16 :: t17 :: t18 :: t19 :: .bool false :: .pointer (some ⟨mb, 0, none⟩) :: .agg #[.slice none 0 0] :: .pointer (some ⟨w1.heap.size, 0, none⟩) :: .int .i64 i :: .slice A i cc :: .int .i64 i :: .bool false :: u28 :: u29 :: u30 :: u31 :: u32 :: u33 :: u34 :: u35 :: u36 :: u37 :: u38 :: u39 :: u40 :: u41 :: .slice (some ⟨S, 0, none⟩) 0 0 :: .pointer (some ⟨mb, 0, none⟩) :: c.v :: .func (.func 86) #[] #[.pointer (some ⟨S + 1 + 1, 0, none⟩), .pointer (some ⟨S + 1 + 1 + 1, 0, none⟩)] :: CT.v x :: undef :: undef :: undef :: undef :: undef :: undef :: undef :: undef :: undef :: undef :: undef :: undef :: undef :: undef :: undef :: undef :: undef :: undef :: undef :: undef :: undef :: undef :: undef :: undef :: []), defers := [] })
          (fun x a' _ X Y row hs hg hr => by obtain ⟨Bx, h1, h2, h3⟩ := hs; exact ⟨Bx, h1, blk_own h2 hg (fun r e => (hr r e).2), h3⟩)
          ?assign ?body ?done ?stop
        case assign =>
          rintro ri pre x W K ⟨⟨v, hv, hrow, hp⟩, hB⟩ hK
          gi_wp2
          have hz : S ≤ W.heap.size := by have := hB.size; have := HSz.out; omega
          exact hK _ _ ((KeepsOthers.alloc _ _).from _) ((Below.refl _ W).alloc (by omega) _) ⟨⟨v, hv.alloc _, hrow.alloc _, hp⟩, hB.alloc (by omega) _⟩ ⟨W.heap.size, hv.lt, Blk.new W _ _, rfl⟩
        case body =>
          rintro ri pre x a' W hl ⟨r, hr⟩ ⟨⟨v, hv, hrow, hp⟩, hB⟩ ⟨Bx, hBx, bX, rfl⟩ hlt
          obtain ⟨A9, c9, e9, hc9, hm9⟩ := (show CRow W S v pre from hrow).len
          subst e9
          have hwS : w.heap.size + 1 < S := by have := HDr.out.2.2; rw [HSz.out] at this; exact this
          have hm0 : W.cell? ⟨w.heap.size + 1, 0, none⟩ = some (.int .i64 most) := (HDr.out.2.1.keep hB hwS).cell 0
          have hc := hv.cell
          have hz : S ≤ W.heap.size := by have := hB.size; have := HSz.out; omega
          have lbx := bX.lt
          obtain ⟨x0, x1, x2, x3, x4, x5, x6, x7⟩ := DW.words (show DW W Bx x from bX)
          have HP := hid hp
          clear hp
          by_cases hge : most ≤ (pre.length : Int)
          · gi_wp2
            exact ⟨KeepsFrom.refl _ _, ⟨_, hv, by rw [List.dropLast_concat]; exact hrow, rfl, by rw [List.dropLast_concat]; exact HP.out, by rw [List.dropLast_concat]; exact hge⟩, hB⟩
          · gi_wp2_with (gi_at_builtin; refine wpListIn_append_cell rfl (.tmp 51) (.tmp 53) rfl _ S _ pre rfl (hrow.alloc _) W.heap.size 1 rfl x (ct_new x _ _) (by omega) (by simp; omega) ?_; intro g' cap' wq hown' hgrow; obtain ⟨hv1, hv2, hr2, hk2, hb2⟩ := hv.appended (by decide) hrow (by omega) (by omega) hown' hgrow; have hc1 := hv1.cell; have hf1 := hv1.frozen)
            exact ⟨hk2.from _, hb2, ⟨⟨_, hv2, by simpa using hr2, .inl (by rw [List.length_append, List.length_singleton]; omega)⟩, hB.trans hb2⟩⟩
        case done =>
          rintro D ys W hD rfl ⟨⟨v, hv, hrow, hp⟩, hB⟩ hK
          obtain ⟨got, hgot⟩ : ∃ got, got = fromL d c := ⟨_, rfl⟩
          have HGt : Hid (got = (fromL d c).take most.toNat) := by show got = _; rw [hgot]; exact take_done hp
          rw [← hgot] at hrow
          clear hgot
          have hbs : Below wr.heap.size wr W := by rw [HSz.out]; exact hB
          have HMe := hid (Me2.below HS1.out hbs)
          have HRF : Hid (Calls Tryd.prog 46 #[.pointer (some ⟨w1.heap.size, 0, none⟩), c.v] W fun e w' => ∃ v, e = .returned v ∧ CRow w' W.heap.size v (fromL d c) ∧ (∃ g k c, v = .slice (some ⟨g, 0, none⟩) k c) ∧ Below W.heap.size W w') := reffrom_any _ _ rv d c W HMe.out.out.2.1 HSc.out (by omega)
          obtain ⟨x0, x1, x2, x3, x4, x5, x6, x7⟩ := DW.words (DW.keep HDr.out.1 hbs (Nat.lt_of_succ_lt HDr.out.2.2))
          obtain ⟨A9, c9, e9, hc9, hm9⟩ := (show CRow W S v got from hrow).len
          subst e9
          have HKg : Hid (ClA W (.slice A9 got.length c9) got) := (show CRow W S (.slice A9 got.length c9) got from hrow).cla
          have HBo := hid hv
          have hDlt : D < W.heap.size := (Array.getElem?_eq_some_iff.1 hK).1
          have HKf : Hid (∀ Wf, Below W.heap.size W Wf → Wf.heap[D]? = some (.deferred (some []))) := fun Wf hb => (hb.block D hDlt).trans hK
          have HFB : Hid (∀ Wf, Below W.heap.size W Wf → Below w.heap.size w (Wf.putObj D (.deferred none))) := fun Wf hb =>
            (HBwr.out.trans ((hbs.trans (hb.mono hbs.size)).mono HBwr.out.size)).trans (belowK_b (w := Wd) (Nat.le_trans HBwr.out.size hB0.size) Wf D _ _ hD ((hb.block D hDlt).trans hK) rfl rfl)
          have hSW : S + 1 < W.heap.size := HBo.out.lt
          have hwS : w.heap.size + 1 < S := by have := HDr.out.2.2; rw [HSz.out] at this; exact this
          have m8 : W.cell? ⟨w.heap.size + 1, 0, none⟩ = some (.int .i64 most) := (HDr.out.2.1.keep hbs HDr.out.2.2).cell 0
          obtain ⟨ng, hng⟩ : ∃ ng, got.length = ng := ⟨_, rfl⟩
          obtain ⟨m, hml⟩ : ∃ m, (fromL d c).length = m := ⟨_, rfl⟩
          have HMl := hid hml
          have hnm : ng = min most.toNat m := by rw [← hng, HGt.out, List.length_take, hml]
          have HGk : Hid (got = (fromL d c).take ng) := by
            show got = _
            rw [← hng]
            conv => lhs; rw [HGt.out]
            rw [HGt.out, List.length_take, List.take_eq_take_min]
          rw [hng] at HKg hv hc9
          have g8 : W.cell? ⟨S + 1, 0, none⟩ = some (.slice A9 ng c9) := hv.cell
          clear hbs hrow hv hB hK hng hml hp HBo hDlt
          go_upto_region 18 with (go_at_call 46; refine HRF.out.mono ?_; rintro e w9 ⟨vw, rfl, hrw, hvs, hb9⟩)
          have HB9 := hid hb9
          have HKw := hid hrw.cla
          obtain ⟨Aw, cw, e8, hcw, hmw⟩ := hrw.len
          rw [HMl.out] at e8 hcw
          have hsome : ∃ ad : Nat, Aw = some ⟨ad, 0, none⟩ := by
            obtain ⟨g, k, c, e⟩ := hvs
            rw [e] at e8
            injection e8 with q1
            exact ⟨g, q1.symm⟩
          subst e8
          clear hvs
          have g9 := (hb9.cell (p := ⟨S + 1, 0, none⟩) hSW).trans g8
          have m9 := (hb9.cell (p := ⟨w.heap.size + 1, 0, none⟩) (by show w.heap.size + 1 < W.heap.size; omega)).trans m8
          have HKg9 := hid (HKg.out.below hb9)
          have HAw : Hid (∃ ad : Nat, Aw = some ⟨ad, 0, none⟩) := hsome
          clear hb9 hrw HRF g8 m8 HKg x0 x1 x2 x3 x4 x5 x6 x7
          by_cases hneg : most < 0
          · have hng0 : ng = 0 := by rw [hnm, show most.toNat = 0 by omega]; exact Nat.zero_min _
            have h0 : ((ng : Int) == 0) = true := by simp [hng0]
            clear hng0 hnm HKw HKg9 HGk
            go_wp2
            refine ⟨by simp, .inl ⟨_, _, rfl, run_takeDeferred (HKf.out _ HB9.out), ?_⟩⟩
            exact ⟨_, results_tmp rfl _ _ _, rfl, HFB.out _ HB9.out⟩
          · obtain ⟨mo, hmo⟩ : ∃ mo : Nat, most = (mo : Int) := ⟨most.toNat, by omega⟩
            subst hmo
            by_cases hmm : mo ≤ m
            · have hk : ng = mo := by rw [hnm, Int.toNat_natCast]; omega
              subst hk
              clear hnm
              have HKw2 : Hid (ClA w9 (.slice Aw ng cw) ((fromL d c).take ng)) := cla_take HKw.out ng (by rw [HMl.out]; omega)
              have HTT : Hid (Fin2 w9 (S + 1) (w.heap.size + 1) (.slice A9 ng c9) (.int .i64 (ng : Int)) w9) := ⟨hid ⟨Below.refl _ _, by have := HB9.out.size; omega, by have := HB9.out.size; omega⟩, g9, m9⟩
              have HSC : Hid (Calls Tryd.prog 29 #[.slice A9 ng c9, .slice Aw ng cw] w9.drew fun e w' => e = .returned (.bool true) ∧ Below w9.drew.heap.size w9.drew w') := by
                have hq := samecells_any _ _ got ((fromL d c).take ng) w9.drew (HKg9.out.below (Below.refl _ _).drew) (HKw2.out.below (Below.refl _ _).drew)
                rw [show decide (got = (fromL d c).take ng) = true from decide_eq_true HGk.out] at hq
                exact hq
              have hz1 : (0 : Int) ≤ (ng : Int) := by omega
              have hz2 : (ng : Int) ≤ (cw : Int) := by omega
              have hz6 : ng ≤ cw := by omega
              have hz7 : ¬ cw < ng := by omega
              have hz9 : ¬ (cw : Int) < (ng : Int) := by omega
              have hz3 : (ng : Int) ≤ (m : Int) := by omega
              have hz8 : ¬ (m : Int) < (ng : Int) := by omega
              have hz8n : ¬ m < ng := by omega
              clear HKw HKw2 HKg9 HGk
              have hAw : ∃ ad : Nat, Aw = some ⟨ad, 0, none⟩ := HAw.out
              obtain ⟨ad, rfl⟩ := hAw
              have hmin : min (ng : Int) (m : Int) = (ng : Int) := by omega
              go_upto_region 20 with (fail)
              go_region_held3 (fun W' => Hid (Below w9.heap.size w9 W' ∧ S + 1 < w9.heap.size ∧ w.heap.size + 1 < w9.heap.size) ∧ W'.cell? ⟨S + 1, 0, none⟩ = some (.slice A9 ng c9) ∧ W'.cell? ⟨w.heap.size + 1, 0, none⟩ = some (.int .i64 (ng : Int)))
                (first | exact HTT.out | exact fin2_drew HTT.out | exact fin2_call (by assumption) hb3 | exact fin2_drew (by assumption) | assumption)
                (first | (go_at_call 29; have hq := HSC.out; refine hq.mono ?_; clear hq; rintro e w3 ⟨rfl, hb3⟩))
              rename_i hLast
              have HZf := hid (HB9.out.trans ((fin2_below hLast).mono HB9.out.size))
              clear hLast HTT HSC hmin
              go_wp2
              refine ⟨by simp, .inl ⟨_, _, rfl, run_takeDeferred (HKf.out _ HZf.out), ?_⟩⟩
              exact ⟨_, results_tmp rfl _ _ _, rfl, HFB.out _ HZf.out⟩
            · have hk : ng = m := by rw [hnm, Int.toNat_natCast]; omega
              subst hk
              have hz4 : ¬ (mo : Int) ≤ (ng : Int) := by omega
              have hz5 : (ng : Int) < (mo : Int) := by omega
              clear hnm
              have HKw2 : Hid (ClA w9 (.slice Aw ng cw) ((fromL d c).take ng)) := cla_take HKw.out ng (by rw [HMl.out]; omega)
              have HTT : Hid (Fin2 w9 (S + 1) (w.heap.size + 1) (.slice A9 ng c9) (.int .i64 (mo : Int)) w9) := ⟨hid ⟨Below.refl _ _, by have := HB9.out.size; omega, by have := HB9.out.size; omega⟩, g9, m9⟩
              have HSC : Hid (Calls Tryd.prog 29 #[.slice A9 ng c9, .slice Aw ng cw] w9.drew fun e w' => e = .returned (.bool true) ∧ Below w9.drew.heap.size w9.drew w') := by
                have hq := samecells_any _ _ got ((fromL d c).take ng) w9.drew (HKg9.out.below (Below.refl _ _).drew) (HKw2.out.below (Below.refl _ _).drew)
                rw [show decide (got = (fromL d c).take ng) = true from decide_eq_true HGk.out] at hq
                exact hq
              have hz1 : (0 : Int) ≤ (ng : Int) := by omega
              have hz2 : (ng : Int) ≤ (cw : Int) := by omega
              have hz6 : ng ≤ cw := by omega
              have hz7 : ¬ cw < ng := by omega
              have hz9 : ¬ (cw : Int) < (ng : Int) := by omega
              have hz3 : (ng : Int) ≤ (ng : Int) := by omega
              clear HKw HKw2 HKg9 HGk
              have hAw : ∃ ad : Nat, Aw = some ⟨ad, 0, none⟩ := HAw.out
              obtain ⟨ad, rfl⟩ := hAw
              have hmin : min (mo : Int) (ng : Int) = (ng : Int) := by omega
              go_upto_region 20 with (fail)
              go_region_held3 (fun W' => Hid (Below w9.heap.size w9 W' ∧ S + 1 < w9.heap.size ∧ w.heap.size + 1 < w9.heap.size) ∧ W'.cell? ⟨S + 1, 0, none⟩ = some (.slice A9 ng c9) ∧ W'.cell? ⟨w.heap.size + 1, 0, none⟩ = some (.int .i64 (mo : Int)))
                (first | exact HTT.out | exact fin2_drew HTT.out | exact fin2_call (by assumption) hb3 | exact fin2_drew (by assumption) | assumption)
                (first | (go_at_call 29; have hq := HSC.out; refine hq.mono ?_; clear hq; rintro e w3 ⟨rfl, hb3⟩))
              rename_i hLast
              have HZf := hid (HB9.out.trans ((fin2_below hLast).mono HB9.out.size))
              clear hLast HTT HSC hmin
              go_wp2
              refine ⟨by simp, .inl ⟨_, _, rfl, run_takeDeferred (HKf.out _ HZf.out), ?_⟩⟩
              exact ⟨_, results_tmp rfl _ _ _, rfl, HFB.out _ HZf.out⟩
        case stop =>
          rintro D ex pre W hD hpre ⟨⟨v, hv, hrow, rfl, hp, hq⟩, hB⟩ hK
          obtain ⟨got, hgot⟩ : ∃ got, got = pre.dropLast := ⟨_, rfl⟩
          have HGt : Hid (got = (fromL d c).take most.toNat) := by show got = _; rw [hgot]; exact take_stop hpre hp hq
          rw [← hgot] at hrow
          clear hgot hq hpre
          refine wpIn_wide.2 ?_
          have hbs : Below wr.heap.size wr W := by rw [HSz.out]; exact hB
          have HMe := hid (Me2.below HS1.out hbs)
          have HRF : Hid (Calls Tryd.prog 46 #[.pointer (some ⟨w1.heap.size, 0, none⟩), c.v] W fun e w' => ∃ v, e = .returned v ∧ CRow w' W.heap.size v (fromL d c) ∧ (∃ g k c, v = .slice (some ⟨g, 0, none⟩) k c) ∧ Below W.heap.size W w') := reffrom_any _ _ rv d c W HMe.out.out.2.1 HSc.out (by omega)
          obtain ⟨x0, x1, x2, x3, x4, x5, x6, x7⟩ := DW.words (DW.keep HDr.out.1 hbs (Nat.lt_of_succ_lt HDr.out.2.2))
          obtain ⟨A9, c9, e9, hc9, hm9⟩ := (show CRow W S v got from hrow).len
          subst e9
          have HKg : Hid (ClA W (.slice A9 got.length c9) got) := (show CRow W S (.slice A9 got.length c9) got from hrow).cla
          have HBo := hid hv
          have hDlt : D < W.heap.size := (Array.getElem?_eq_some_iff.1 hK).1
          have HKf : Hid (∀ Wf, Below W.heap.size W Wf → Wf.heap[D]? = some (.deferred (some []))) := fun Wf hb => (hb.block D hDlt).trans hK
          have HFB : Hid (∀ Wf, Below W.heap.size W Wf → Below w.heap.size w (Wf.putObj D (.deferred none))) := fun Wf hb =>
            (HBwr.out.trans ((hbs.trans (hb.mono hbs.size)).mono HBwr.out.size)).trans (belowK_b (w := Wd) (Nat.le_trans HBwr.out.size hB0.size) Wf D _ _ hD ((hb.block D hDlt).trans hK) rfl rfl)
          have hSW : S + 1 < W.heap.size := HBo.out.lt
          have hwS : w.heap.size + 1 < S := by have := HDr.out.2.2; rw [HSz.out] at this; exact this
          have m8 : W.cell? ⟨w.heap.size + 1, 0, none⟩ = some (.int .i64 most) := (HDr.out.2.1.keep hbs HDr.out.2.2).cell 0
          obtain ⟨ng, hng⟩ : ∃ ng, got.length = ng := ⟨_, rfl⟩
          obtain ⟨m, hml⟩ : ∃ m, (fromL d c).length = m := ⟨_, rfl⟩
          have HMl := hid hml
          have hnm : ng = min most.toNat m := by rw [← hng, HGt.out, List.length_take, hml]
          have HGk : Hid (got = (fromL d c).take ng) := by
            show got = _
            rw [← hng]
            conv => lhs; rw [HGt.out]
            rw [HGt.out, List.length_take, List.take_eq_take_min]
          rw [hng] at HKg hv hc9
          have g8 : W.cell? ⟨S + 1, 0, none⟩ = some (.slice A9 ng c9) := hv.cell
          clear hbs hrow hv hB hK hng hml hp HBo hDlt
          go_upto_region 18 with (go_at_call 46; refine HRF.out.mono ?_; rintro e w9 ⟨vw, rfl, hrw, hvs, hb9⟩)
          have HB9 := hid hb9
          have HKw := hid hrw.cla
          obtain ⟨Aw, cw, e8, hcw, hmw⟩ := hrw.len
          rw [HMl.out] at e8 hcw
          have hsome : ∃ ad : Nat, Aw = some ⟨ad, 0, none⟩ := by
            obtain ⟨g, k, c, e⟩ := hvs
            rw [e] at e8
            injection e8 with q1
            exact ⟨g, q1.symm⟩
          subst e8
          clear hvs
          have g9 := (hb9.cell (p := ⟨S + 1, 0, none⟩) hSW).trans g8
          have m9 := (hb9.cell (p := ⟨w.heap.size + 1, 0, none⟩) (by show w.heap.size + 1 < W.heap.size; omega)).trans m8
          have HKg9 := hid (HKg.out.below hb9)
          have HAw : Hid (∃ ad : Nat, Aw = some ⟨ad, 0, none⟩) := hsome
          clear hb9 hrw HRF g8 m8 HKg x0 x1 x2 x3 x4 x5 x6 x7
          by_cases hneg : most < 0
          · have hng0 : ng = 0 := by rw [hnm, show most.toNat = 0 by omega]; exact Nat.zero_min _
            have h0 : ((ng : Int) == 0) = true := by simp [hng0]
            clear hng0 hnm HKw HKg9 HGk
            go_wp2
            refine ⟨by simp, .inl ⟨_, _, rfl, run_takeDeferred (HKf.out _ HB9.out), ?_⟩⟩
            exact ⟨_, results_tmp rfl _ _ _, rfl, HFB.out _ HB9.out⟩
          · obtain ⟨mo, hmo⟩ : ∃ mo : Nat, most = (mo : Int) := ⟨most.toNat, by omega⟩
            subst hmo
            by_cases hmm : mo ≤ m
            · have hk : ng = mo := by rw [hnm, Int.toNat_natCast]; omega
              subst hk
              clear hnm
              have HKw2 : Hid (ClA w9 (.slice Aw ng cw) ((fromL d c).take ng)) := cla_take HKw.out ng (by rw [HMl.out]; omega)
              have HTT : Hid (Fin2 w9 (S + 1) (w.heap.size + 1) (.slice A9 ng c9) (.int .i64 (ng : Int)) w9) := ⟨hid ⟨Below.refl _ _, by have := HB9.out.size; omega, by have := HB9.out.size; omega⟩, g9, m9⟩
              have HSC : Hid (Calls Tryd.prog 29 #[.slice A9 ng c9, .slice Aw ng cw] w9.drew fun e w' => e = .returned (.bool true) ∧ Below w9.drew.heap.size w9.drew w') := by
                have hq := samecells_any _ _ got ((fromL d c).take ng) w9.drew (HKg9.out.below (Below.refl _ _).drew) (HKw2.out.below (Below.refl _ _).drew)
                rw [show decide (got = (fromL d c).take ng) = true from decide_eq_true HGk.out] at hq
                exact hq
              have hz1 : (0 : Int) ≤ (ng : Int) := by omega
              have hz2 : (ng : Int) ≤ (cw : Int) := by omega
              have hz6 : ng ≤ cw := by omega
              have hz7 : ¬ cw < ng := by omega
              have hz9 : ¬ (cw : Int) < (ng : Int) := by omega
              have hz3 : (ng : Int) ≤ (m : Int) := by omega
              have hz8 : ¬ (m : Int) < (ng : Int) := by omega
              have hz8n : ¬ m < ng := by omega
              clear HKw HKw2 HKg9 HGk
              have hAw : ∃ ad : Nat, Aw = some ⟨ad, 0, none⟩ := HAw.out
              obtain ⟨ad, rfl⟩ := hAw
              have hmin : min (ng : Int) (m : Int) = (ng : Int) := by omega
              go_upto_region 20 with (fail)
              go_region_held3 (fun W' => Hid (Below w9.heap.size w9 W' ∧ S + 1 < w9.heap.size ∧ w.heap.size + 1 < w9.heap.size) ∧ W'.cell? ⟨S + 1, 0, none⟩ = some (.slice A9 ng c9) ∧ W'.cell? ⟨w.heap.size + 1, 0, none⟩ = some (.int .i64 (ng : Int)))
                (first | exact HTT.out | exact fin2_drew HTT.out | exact fin2_call (by assumption) hb3 | exact fin2_drew (by assumption) | assumption)
                (first | (go_at_call 29; have hq := HSC.out; refine hq.mono ?_; clear hq; rintro e w3 ⟨rfl, hb3⟩))
              rename_i hLast
              have HZf := hid (HB9.out.trans ((fin2_below hLast).mono HB9.out.size))
              clear hLast HTT HSC hmin
              go_wp2
              refine ⟨by simp, .inl ⟨_, _, rfl, run_takeDeferred (HKf.out _ HZf.out), ?_⟩⟩
              exact ⟨_, results_tmp rfl _ _ _, rfl, HFB.out _ HZf.out⟩
            · have hk : ng = m := by rw [hnm, Int.toNat_natCast]; omega
              subst hk
              have hz4 : ¬ (mo : Int) ≤ (ng : Int) := by omega
              have hz5 : (ng : Int) < (mo : Int) := by omega
              clear hnm
              have HKw2 : Hid (ClA w9 (.slice Aw ng cw) ((fromL d c).take ng)) := cla_take HKw.out ng (by rw [HMl.out]; omega)
              have HTT : Hid (Fin2 w9 (S + 1) (w.heap.size + 1) (.slice A9 ng c9) (.int .i64 (mo : Int)) w9) := ⟨hid ⟨Below.refl _ _, by have := HB9.out.size; omega, by have := HB9.out.size; omega⟩, g9, m9⟩
              have HSC : Hid (Calls Tryd.prog 29 #[.slice A9 ng c9, .slice Aw ng cw] w9.drew fun e w' => e = .returned (.bool true) ∧ Below w9.drew.heap.size w9.drew w') := by
                have hq := samecells_any _ _ got ((fromL d c).take ng) w9.drew (HKg9.out.below (Below.refl _ _).drew) (HKw2.out.below (Below.refl _ _).drew)
                rw [show decide (got = (fromL d c).take ng) = true from decide_eq_true HGk.out] at hq
                exact hq
              have hz1 : (0 : Int) ≤ (ng : Int) := by omega
              have hz2 : (ng : Int) ≤ (cw : Int) := by omega
              have hz6 : ng ≤ cw := by omega
              have hz7 : ¬ cw < ng := by omega
              have hz9 : ¬ (cw : Int) < (ng : Int) := by omega
              have hz3 : (ng : Int) ≤ (ng : Int) := by omega
              clear HKw HKw2 HKg9 HGk
              have hAw : ∃ ad : Nat, Aw = some ⟨ad, 0, none⟩ := HAw.out
              obtain ⟨ad, rfl⟩ := hAw
              have hmin : min (mo : Int) (ng : Int) = (ng : Int) := by omega
              go_upto_region 20 with (fail)
              go_region_held3 (fun W' => Hid (Below w9.heap.size w9 W' ∧ S + 1 < w9.heap.size ∧ w.heap.size + 1 < w9.heap.size) ∧ W'.cell? ⟨S + 1, 0, none⟩ = some (.slice A9 ng c9) ∧ W'.cell? ⟨w.heap.size + 1, 0, none⟩ = some (.int .i64 (mo : Int)))
                (first | exact HTT.out | exact fin2_drew HTT.out | exact fin2_call (by assumption) hb3 | exact fin2_drew (by assumption) | assumption)
                (first | (go_at_call 29; have hq := HSC.out; refine hq.mono ?_; clear hq; rintro e w3 ⟨rfl, hb3⟩))
              rename_i hLast
              have HZf := hid (HB9.out.trans ((fin2_below hLast).mono HB9.out.size))
              clear hLast HTT HSC hmin
              go_wp2
              refine ⟨by simp, .inl ⟨_, _, rfl, run_takeDeferred (HKf.out _ HZf.out), ?_⟩⟩
              exact ⟨_, results_tmp rfl _ _ _, rfl, HFB.out _ HZf.out⟩
end Go.Proofs.YtdjaofbjmnmlbaaDoor

/- MemFrom: what is told from a place on is what is not ahead of it, in order; stopped anywhere it tells a beginning. The row and its tied card. Conditions: none but the card's own (the listed variables of the library are laid by the program's text). -/
namespace Go.Proofs.YtdjaofbjmnmlbaaDoor.memFrom
open Go.ChangeShapes Go.WideShapes Go.ChangeAt Go.RowKit

set_option maxRecDepth 100000 in
/-- What the walk gives, for every argument and every world that holds the listed variables. -/
theorem contract (H : Type) (enc : TypeId × Value → H) (W : World) (base : Nat) (args : Array Value) (ds gs : List (DataW H)) (before : List MemPlace)
    (hval : ∀ (j : Nat) t v, Tryd.f8.params[j]? = some t → args[j]? = some v → Value.okWide Tryd.prog W .any base t v)
    (hW : DataW.Whole enc Tryd.prog Tryd.f8.params.toList Rows.memFromSpec.vars false W args.toList ds gs before) (hL : laidMetH Tryd.prog Rows.memFromRow.laid W) (hz : (DataW.weightsEach Tryd.prog (Tryd.f8.params.toList ++ (OpenSpec.ofChange Rows.memFromSpec).bare.plain.varTypes Tryd.prog) (ds ++ gs)).all (· ≤ reachBytes) = true) :
    Calls Tryd.prog 8 args W fun e W' => ∃ v, e = .returned v ∧ Rows.memFromSpec.post enc Tryd.prog Tryd.f8 false true false false W args v W' := by
  have hW' := hW
  obtain ⟨p, q, hA0, hV, rfl, hfz, hnd⟩ := hW
  have hA : DataW.TrodAll enc Tryd.prog W 0 (fun _ => true) true Tryd.f8.params.toList args.toList ds p := hA0
  rw [Tryd.params8] at hA hval hz
  obtain ⟨v0, vs0, d0, ds0, p0, q_0, hargs, rfl, rfl, h0, r_0⟩ := trodAll_cons hA
  obtain ⟨v1, vs1, d1, ds1, p1, q_1, rfl, rfl, rfl, h1, r_1⟩ := trodAll_cons r_0
  obtain ⟨v2, vs2, d2, ds2, p2, q_2, rfl, rfl, rfl, h2, r_2⟩ := trodAll_cons r_1
  obtain ⟨rfl, rfl, rfl⟩ := trodAll_nil r_2
  obtain rfl : args = #[v0, v1, v2] := by cases args; simp_all
  obtain ⟨rfl, rfl⟩ := trodVars_none hV
  obtain ⟨l0, hs0, hv0, hb0⟩ := open_cla2 (hval 0 39 v0 rfl rfl) h0 (fun n hn => of_decide_eq_true (List.all_eq_true.1 hz n (DataW.weights_mem_each (j := 0) (t := 39) (d := d0) rfl rfl n hn)))
  obtain ⟨r1, f1, q1, t1, k1, vk1, vn1, s1, rfl, rfl, rfl, wr1, wf1, wq1, wt1, wk1, wvk1, wn1, ws1⟩ := open_cell (hval 1 28 v1 rfl rfl) h1
  have hr1 : r1.size ≤ 9223372036854775807 := size_of wr1
  have hf1 : f1.size ≤ 9223372036854775807 := size_of wf1
  have hq1 : q1.size ≤ 9223372036854775807 := size_of wq1
  have hs1 : s1.size ≤ 9223372036854775807 := size_of ws1
  obtain ⟨c2, rfl, rfl, rfl, wc2⟩ := open_int Tryd.underlying3 (hval 2 3 v2 rfl rfl) h2
  clear hA0
  simp only [List.append_nil] at hW'
  have hL2 : LaidU W := laid_u (seat_met5 hL)
  have hlt0 : ∀ x ∈ p0, x.block < W.heap.size := fun x hx => by simpa using hW'.lt x (by simp [hx])
  refine (memfrom_any v0 l0 ⟨r1, f1, q1, t1, k1, vk1, vn1, s1⟩ c2 W hs0 hb0 hv0 (inI_of_wf2 wn1) hL2).mono fun e W' ⟨he, hg⟩ => ?_
  subst he
  exact ⟨_, rfl, _, _, _, [], (p0 ++ ([] ++ ([] ++ []))), [], hW', trodAll_cons_mk (shut_bool Tryd.underlying4 _) trodAll_mk0, (trodAll_cons_mk (Below.trod laid_out (by kernel_rfl) (of_decide_eq_true (by kernel_rfl)) h0 hg hlt0) (trodAll_cons_mk (shut_cell r1 f1 q1 t1 k1 vk1 vn1 s1 wr1 wf1 wq1 wt1 wk1 wvk1 wn1 ws1 0) (trodAll_cons_mk (shut_int Tryd.underlying3 wc2) trodAll_mk0))), rfl, hg.frame _, fun h => by cases h⟩

theorem reads (os : Os) (H : Type) (enc : TypeId × Value → H) : ∃ places, DataW.whole enc Tryd.prog ((laidWorld5 os).forCall (fun _ _ => 0) ⟨#[], #[.slice none 0 0, .agg #[.string ByteArray.empty, .string ByteArray.empty, .string ByteArray.empty, .int .i64 0, .int .i64 0, .int .i64 0, .int .i64 0, .string ByteArray.empty], .int .i64 0], []⟩).memory Tryd.f8.params.toList Rows.memFromSpec.vars false #[Value.slice none 0 0, Value.agg #[.string ByteArray.empty, .string ByteArray.empty, .string ByteArray.empty, .int .i64 0, .int .i64 0, .int .i64 0, .int .i64 0, .string ByteArray.empty], Value.int .i64 0].toList 12 = some ([.nil, .agg [.lit (.string []), .lit (.string []), .lit (.string []), .lit (.int .i64 0), .lit (.int .i64 0), .agg [.lit (.int .i64 0), .lit (.int .i64 0), .lit (.string [])]], .lit (.int .i64 0)], [], places) :=
  ⟨[], by kernel_rfl⟩

set_option maxRecDepth 100000 in
theorem lifted (os : Os) (started : os.Started) (H : Type) (enc : TypeId × Value → H) (F : Stop.Interp) :
    ReturnsInHanded {} Tryd.checked os 8 .any ((OpenSpec.ofChange Rows.memFromSpec).preRow enc Tryd.prog Tryd.f8 Rows.memFromRow.domain false Rows.memFromRow.laid) (((OpenSpec.ofChange Rows.memFromSpec).at F).post enc Tryd.prog Tryd.f8 false true false false) := by
  obtain ⟨places, hx⟩ := reads os H enc
  refine returnsInHanded_of_row (C := Tryd.checked) (s := OpenSpec.ofChange Rows.memFromSpec) seat_own started (by kernel_rfl) Tryd.func8
    (witness_row_at (enc := enc) (C := Tryd.checked) false (laidWorld5 os) #[.slice none 0 0, .agg #[.string ByteArray.empty, .string ByteArray.empty, .string ByteArray.empty, .int .i64 0, .int .i64 0, .int .i64 0, .int .i64 0, .string ByteArray.empty], .int .i64 0] rfl (by kernel_rfl) (by kernel_rfl) (by kernel_rfl)
      (OpenSpec.preRow_of_cond 12 hx (by kernel_rfl) (fun k hk => by cases hk) (by kernel_rfl) (laid_met5 os _))) ?_
  intro W base args ds gs before hval hW _ _ hz hL _ _
  exact contract H enc W base args ds gs before hval hW hL hz

theorem said : Rows.MemFromSaid :=
  OpenClaim.holds_of_cond 8 Tryd.f8 rfl rfl rfl rfl rfl rfl rfl ⟨rfl, rfl, rfl, rfl, rfl⟩ rfl rfl rfl rfl rfl (by kernel_rfl) Tryd.func8 (by kernel_rfl)
    (of_decide_eq_true (by kernel_rfl)) (by unfold Func.isWrapper; first | (rw [if_pos (by decide +kernel)]; kernel_rfl) | (rw [if_neg (by decide +kernel)]; exact ⟨rfl, rfl⟩))
    (fun os started H enc _ F => by rw [OpenClaim.pre_eq_preRow]; exact lifted os started H enc F)

theorem plain (f : FuncId) (fn : Func) (hf : Tryd.pinned.checked.prog.funcNamed "joist/joistlaw07.MemFrom" = some f) (hfn : Tryd.pinned.checked.prog.funcs[f]? = some fn) :
    true = Tryd.pinned.checked.prog.looks [] ∧ ∀ (j : Nat) t, fn.params[j]? = some t → Tryd.pinned.checked.prog.wantsStandIn t = false := by
  obtain rfl : f = 8 := Option.some.inj ((show Tryd.prog.funcNamed "joist/joistlaw07.MemFrom" = some 8 by kernel_rfl).symm.trans hf) |>.symm
  obtain rfl : fn = Tryd.f8 := (Option.some.inj (Tryd.func8.symm.trans hfn)).symm
  refine ⟨by kernel_rfl, fun j t ht => ?_⟩
  rw [Tryd.params8] at ht
  have hm := Array.mem_of_getElem? ht
  rcases (show t = 39 ∨ t = 28 ∨ t = 3 by simpa using hm) with rfl | rfl | rfl
  · exact (show Tryd.prog.wantsStandIn 39 = false by kernel_rfl)
  · exact (show Tryd.prog.wantsStandIn 28 = false by kernel_rfl)
  · exact (show Tryd.prog.wantsStandIn 3 = false by kernel_rfl)

/-- THE CARD. -/
theorem card : Rows.MemFromCardSaid :=
  Claim7.holds_tied_plain_at .later [] _ _ _ _ said (fun _ h => by cases h) (by kernel_rfl) (fun _ h => by cases h) memFrom_row_tie rfl ⟨rfl, rfl⟩ (by kernel_rfl) rfl plain (by kernel_rfl)
end Go.Proofs.YtdjaofbjmnmlbaaDoor.memFrom
namespace Go.Proofs.YtdjaofbjmnmlbaaDoor
theorem memFrom_card : Rows.MemFromCardSaid := memFrom.card
end Go.Proofs.YtdjaofbjmnmlbaaDoor
