/- Several texts in one: KGa KG KH PGone. Conditions: as each theorem names them. -/
import Derived.Test.YtdjaofbjmnmlbaaDoorMIEKF
import Derived.Test.YtdjaofbjmnmlbaaDoorMEAIC
import Derived.Deep.RegionLaw
import Derived.Deep.RegionHeld3
import Derived.Deep.QuietTactic
import Derived.Handed
import Derived.SizedLaws
/- The statement of layer 6, where it asks nothing: what a cell tells to be gone isn't seen, and the rest stays. Conditions: the arguments stand, their numbers are of 64 bits; the tables of utf8 read as they are laid. -/
namespace Go.Proofs.YtdjaofbjmnmlbaaDoor
open Go.RowKit

section
variable {w W0 W W' : World} {b o : Nat} {c d : CT}
abbrev TwoW (w W0 : World) (b o : Nat) (d c : CT) (W : World) : Prop := Hid (Below W0.heap.size W0 W ∧ w.heap.size < W0.heap.size ∧ b < W0.heap.size) ∧ (W.cell? ⟨w.heap.size, 0, none⟩ = some (.string d.r) ∧ W.cell? ⟨w.heap.size, 1, none⟩ = some (.string d.f) ∧ W.cell? ⟨w.heap.size, 2, none⟩ = some (.string d.q) ∧ W.cell? ⟨w.heap.size, 3, none⟩ = some (.int .i64 d.t) ∧ W.cell? ⟨w.heap.size, 4, none⟩ = some (.int .i64 d.k) ∧ W.cell? ⟨w.heap.size, 5, none⟩ = some (.int .i64 d.vk) ∧ W.cell? ⟨w.heap.size, 6, none⟩ = some (.int .i64 d.vn) ∧ W.cell? ⟨w.heap.size, 7, none⟩ = some (.string d.s)) ∧ (W.cell? ⟨b, o, none⟩ = some (.string c.r) ∧ W.cell? ⟨b, o + 1, none⟩ = some (.string c.f) ∧ W.cell? ⟨b, o + 2, none⟩ = some (.string c.q) ∧ W.cell? ⟨b, o + 3, none⟩ = some (.int .i64 c.t) ∧ W.cell? ⟨b, o + 4, none⟩ = some (.int .i64 c.k) ∧ W.cell? ⟨b, o + 5, none⟩ = some (.int .i64 c.vk) ∧ W.cell? ⟨b, o + 6, none⟩ = some (.int .i64 c.vn) ∧ W.cell? ⟨b, o + 7, none⟩ = some (.string c.s))
theorem two_drew (h : TwoW w W0 b o d c W) : TwoW w W0 b o d c W.drew := ⟨hid ⟨h.1.out.1.drew, h.1.out.2⟩, h.2⟩
theorem two_call (h : TwoW w W0 b o d c W) (hb : Below W.heap.size W W') : TwoW w W0 b o d c W' := by
  obtain ⟨hh, ⟨a0, a1, a2, a3, a4, a5, a6, a7⟩, ⟨b0, b1, b2, b3, b4, b5, b6, b7⟩⟩ := h
  obtain ⟨hbw, h1, h2⟩ := hh.out
  have hz := hbw.size
  have hc : ∀ b o, b < W0.heap.size → W'.cell? ⟨b, o, none⟩ = W.cell? ⟨b, o, none⟩ := fun b o h => hb.cell (p := ⟨b, o, none⟩) (show b < W.heap.size by omega)
  refine ⟨hid ⟨hbw.trans (hb.mono hz), h1, h2⟩, ⟨?_, ?_, ?_, ?_, ?_, ?_, ?_, ?_⟩, ⟨?_, ?_, ?_, ?_, ?_, ?_, ?_, ?_⟩⟩ <;> (rw [hc _ _ (by omega)]; assumption)
end

set_option maxHeartbeats 8000000 in
set_option maxRecDepth 100000 in
theorem cellgone_easy (v : Value) (l : List CT) (d : CT) (now : Int) (w : World) (h : ClA w v l) (hlen : l.length ≤ 1466015503658) (hv : ∀ c ∈ l, inI c.vn) (hvd : inI d.vn) (hfd : d.f.size ≤ 9223372036854775807) (hL : LaidU w) (he : longC (l ++ [d]) = true ∨ d.k = 1 ∨ d.ok = false) :
    Calls Tryd.prog 5 #[v, d.v, .int .i64 now] w fun e w' => e = .returned (.bool true) ∧ Below w.heap.size w w' := by
  have mixed : Tryd.prog.follows .mixedOrders = true := by kernel_rfl
  have HA := hid fun W (hb : Below w.heap.size w W) => alive_any W (hL.below hb)
  have HCp : Hid (∀ W, Below w.heap.size w W → Calls Tryd.prog 28 #[v] W fun e w' => ∃ v', e = .returned v' ∧ CRow w' W.heap.size v' l ∧ Below W.heap.size W w') := fun W hb => copycells_any v l hlen W (h.below hb)
  have HLg : Hid (∀ W v', ClA W v' (l ++ [d]) → Calls Tryd.prog 24 #[v'] W fun e w' => e = .returned (.bool (longC (l ++ [d]))) ∧ Below W.heap.size W w') := fun W v' h => long_any v' (l ++ [d]) W h
  have HLen := hid hlen
  cases hg : longC (l ++ [d]) with
  | true =>
    rw [hg] at HLg
    clear h hv hL hg hlen he
    go_enter Tryd.func5, Tryd.ntmps5
    go_upto_region 3 with (go_at_call 23; refine (HA.out _ (below_new _ _)).mono ?_; rintro e w5 ⟨rfl, hb5⟩)
    have HB5 : Hid (Below w.heap.size w w5) := (below_new w _).trans (hb5.mono (by simp))
    have HD5 : Hid (DW w5 w.heap.size d) := DW.below (Blk.new w _ _) hb5
    have HG5 : Hid (w.heap.size < w5.heap.size) := by have := hb5.size; simp at this; exact this
    clear hb5
    obtain ⟨x0, x1, x2, x3, x4, x5, x6, x7⟩ := DW.words HD5.out
    have HBd : Hid (Below w.heap.size w w5.drew) := HB5.out.drew
    have HDd : Hid (DW w5.drew w.heap.size d) := DW.below HD5.out (Below.refl _ _).drew
    have HBa : Hid (∀ t, Below w.heap.size w (w5.drew.alloc (.cells #[.string d.r, .string d.f, .string d.q, .int .i64 d.t, .int .i64 d.k, .int .i64 d.vk, .int .i64 d.vn, .string d.s] t))) := fun t => HBd.out.trans ((below_new _ _).mono (by show w.heap.size ≤ w5.heap.size; exact Nat.le_of_lt HG5.out))
    have HDa : Hid (∀ t, DW (w5.drew.alloc (.cells #[.string d.r, .string d.f, .string d.q, .int .i64 d.t, .int .i64 d.k, .int .i64 d.vk, .int .i64 d.vn, .string d.s] t)) w.heap.size d) := fun t => DW.below HDd.out (below_new _ _)
    have HDn : Hid (DW (w5.drew.alloc (.cells #[.string d.r, .string d.f, .string d.q, .int .i64 d.t, .int .i64 d.k, .int .i64 d.vk, .int .i64 d.vn, .string d.s] 28)) w5.drew.heap.size d) := Blk.new w5.drew 28 d.e.toArray
    obtain ⟨y0, y1, y2, y3, y4, y5, y6, y7⟩ := DW.words HDd.out
    (first | (go_region_law (first
      | (go_simp; go_at_call 28; refine (HCp.out _ ?_).mono ?_; (first | exact HBd.out | exact HBa.out _); rintro e w6 ⟨v6, rfl, hr6, hb6⟩; have hd6 : DW w6 w.heap.size d := (by first | exact DW.below HDd.out hb6 | exact DW.below (HDa.out _) hb6); have HD6 := hid hd6; obtain ⟨z0, z1, z2, z3, z4, z5, z6, z7⟩ := DW.words hd6; have HB6 : Hid (Below w.heap.size w w6 ∧ w5.heap.size ≤ w6.heap.size) := (by first | exact ⟨HBd.out.trans (hb6.mono HBd.out.size), hb6.size⟩ | exact ⟨(HBa.out _).trans (hb6.mono (HBa.out _).size), Nat.le_trans (by simp) hb6.size⟩); have HZ6 : Hid (Below w5.heap.size w5 w6) := (by first | exact (Below.refl _ w5).drew.trans hb6 | exact (Below.refl _ w5).drew.trans ((below_new w5.drew _).trans (hb6.mono (by simp)))); have HR6 : Hid (CRow w6 w5.heap.size v6 l) := (by first | exact hr6 | exact hr6.le (by simp)); clear hd6)
      | (refine step_append_cell rfl (.tmp 15) (.tmp 17) rfl _ w5.heap.size v6 l rfl ?_ _ 1 rfl d ?_ HLen.out ?_ ?_; (first | exact HR6.out | exact World.ownsRow.alloc HR6.out _); (first | exact ct_dw (Blk.new w6 28 d.e.toArray) | exact ct_dw (DW.below HDn.out hb6)); (have := HB6.out.2; simp; omega); intro v7 w7 hr7 hb7; have HD7 : Hid (DW w7 w.heap.size d) := (by first | exact DW.keep HD6.out hb7 HG5.out | exact DW.keep (DW.below HD6.out (below_new _ _)) hb7 HG5.out); have HB7 : Hid (Below w.heap.size w w7) := (by first | exact HB6.out.1.trans (hb7.mono (Nat.le_of_lt HG5.out)) | exact (HB6.out.1.trans ((below_new _ _).mono HB6.out.1.size)).trans (hb7.mono (Nat.le_of_lt HG5.out))); have HZ7 : Hid (Below w5.heap.size w5 w7) := (by first | exact HZ6.out.trans hb7 | exact (HZ6.out.trans ((below_new _ _).mono HZ6.out.size)).trans hb7); have HC7 := hid hr7.cla; obtain ⟨t0, t1, t2, t3, t4, t5, t6, t7⟩ := DW.words HD7.out)
      | (go_simp; go_at_call 24; refine (HLg.out _ _ ?_).mono ?_; exact HC7.out; rintro e w8 ⟨rfl, hb8⟩; have HD8 := hid (DW.below HD7.out hb8); have HB8 := hid (HB7.out.trans (hb8.mono HB7.out.size)); obtain ⟨r0, r1, r2, r3, r4, r5, r6, r7⟩ := DW.words HD8.out)
      | (go_simp; go_at_call 26; refine (HRi.out _).mono ?_; rintro e w9 ⟨rfl, hb9⟩; have HD9 := hid (DW.below HD8.out hb9); have HB9 := hid (HB8.out.trans (hb9.mono HB8.out.size))))) | fail)
    all_goals (go_wp2; go_ret; exact ⟨rfl, HB8.out⟩)
  | false =>
    rw [hg] at HLg
    obtain ⟨hl2, hok⟩ := longC_ok hg (fun c hc => by rcases List.mem_append.1 hc with q | q; exact hv c q; exact (List.mem_singleton.1 q) ▸ hvd)
    have hds : d.s.size ≤ 4000 := longC_s hg (by simp)
    have HRi : Hid (∀ W, Calls Tryd.prog 26 #[d.v] W fun e w' => e = .returned (.bool d.ok) ∧ Below W.heap.size W w') := fun W => refcright_any d.r d.f d.q d.s d.t d.k d.vk d.vn hfd hds W
    by_cases hk1 : d.k = 1
    · have hk1b : (d.k == 1) = true := by simp [hk1]
      clear h hv hL hg hlen hk1 hok hds hl2 he
      go_enter Tryd.func5, Tryd.ntmps5
      go_upto_region 3 with (go_at_call 23; refine (HA.out _ (below_new _ _)).mono ?_; rintro e w5 ⟨rfl, hb5⟩)
      have HB5 : Hid (Below w.heap.size w w5) := (below_new w _).trans (hb5.mono (by simp))
      have HD5 : Hid (DW w5 w.heap.size d) := DW.below (Blk.new w _ _) hb5
      have HG5 : Hid (w.heap.size < w5.heap.size) := by have := hb5.size; simp at this; exact this
      clear hb5
      obtain ⟨x0, x1, x2, x3, x4, x5, x6, x7⟩ := DW.words HD5.out
      have HBd : Hid (Below w.heap.size w w5.drew) := HB5.out.drew
      have HDd : Hid (DW w5.drew w.heap.size d) := DW.below HD5.out (Below.refl _ _).drew
      have HBa : Hid (∀ t, Below w.heap.size w (w5.drew.alloc (.cells #[.string d.r, .string d.f, .string d.q, .int .i64 d.t, .int .i64 d.k, .int .i64 d.vk, .int .i64 d.vn, .string d.s] t))) := fun t => HBd.out.trans ((below_new _ _).mono (by show w.heap.size ≤ w5.heap.size; exact Nat.le_of_lt HG5.out))
      have HDa : Hid (∀ t, DW (w5.drew.alloc (.cells #[.string d.r, .string d.f, .string d.q, .int .i64 d.t, .int .i64 d.k, .int .i64 d.vk, .int .i64 d.vn, .string d.s] t)) w.heap.size d) := fun t => DW.below HDd.out (below_new _ _)
      have HDn : Hid (DW (w5.drew.alloc (.cells #[.string d.r, .string d.f, .string d.q, .int .i64 d.t, .int .i64 d.k, .int .i64 d.vk, .int .i64 d.vn, .string d.s] 28)) w5.drew.heap.size d) := Blk.new w5.drew 28 d.e.toArray
      obtain ⟨y0, y1, y2, y3, y4, y5, y6, y7⟩ := DW.words HDd.out
      (first | (go_region_law (first
        | (go_simp; go_at_call 28; refine (HCp.out _ ?_).mono ?_; (first | exact HBd.out | exact HBa.out _); rintro e w6 ⟨v6, rfl, hr6, hb6⟩; have hd6 : DW w6 w.heap.size d := (by first | exact DW.below HDd.out hb6 | exact DW.below (HDa.out _) hb6); have HD6 := hid hd6; obtain ⟨z0, z1, z2, z3, z4, z5, z6, z7⟩ := DW.words hd6; have HB6 : Hid (Below w.heap.size w w6 ∧ w5.heap.size ≤ w6.heap.size) := (by first | exact ⟨HBd.out.trans (hb6.mono HBd.out.size), hb6.size⟩ | exact ⟨(HBa.out _).trans (hb6.mono (HBa.out _).size), Nat.le_trans (by simp) hb6.size⟩); have HZ6 : Hid (Below w5.heap.size w5 w6) := (by first | exact (Below.refl _ w5).drew.trans hb6 | exact (Below.refl _ w5).drew.trans ((below_new w5.drew _).trans (hb6.mono (by simp)))); have HR6 : Hid (CRow w6 w5.heap.size v6 l) := (by first | exact hr6 | exact hr6.le (by simp)); clear hd6)
        | (refine step_append_cell rfl (.tmp 15) (.tmp 17) rfl _ w5.heap.size v6 l rfl ?_ _ 1 rfl d ?_ HLen.out ?_ ?_; (first | exact HR6.out | exact World.ownsRow.alloc HR6.out _); (first | exact ct_dw (Blk.new w6 28 d.e.toArray) | exact ct_dw (DW.below HDn.out hb6)); (have := HB6.out.2; simp; omega); intro v7 w7 hr7 hb7; have HD7 : Hid (DW w7 w.heap.size d) := (by first | exact DW.keep HD6.out hb7 HG5.out | exact DW.keep (DW.below HD6.out (below_new _ _)) hb7 HG5.out); have HB7 : Hid (Below w.heap.size w w7) := (by first | exact HB6.out.1.trans (hb7.mono (Nat.le_of_lt HG5.out)) | exact (HB6.out.1.trans ((below_new _ _).mono HB6.out.1.size)).trans (hb7.mono (Nat.le_of_lt HG5.out))); have HZ7 : Hid (Below w5.heap.size w5 w7) := (by first | exact HZ6.out.trans hb7 | exact (HZ6.out.trans ((below_new _ _).mono HZ6.out.size)).trans hb7); have HC7 := hid hr7.cla; obtain ⟨t0, t1, t2, t3, t4, t5, t6, t7⟩ := DW.words HD7.out)
        | (go_simp; go_at_call 24; refine (HLg.out _ _ ?_).mono ?_; exact HC7.out; rintro e w8 ⟨rfl, hb8⟩; have HD8 := hid (DW.below HD7.out hb8); have HB8 := hid (HB7.out.trans (hb8.mono HB7.out.size)); obtain ⟨r0, r1, r2, r3, r4, r5, r6, r7⟩ := DW.words HD8.out)
        | (go_simp; go_at_call 26; refine (HRi.out _).mono ?_; rintro e w9 ⟨rfl, hb9⟩; have HD9 := hid (DW.below HD8.out hb9); have HB9 := hid (HB8.out.trans (hb9.mono HB8.out.size))))) | fail)
      all_goals (go_wp2; go_ret; exact ⟨rfl, HB8.out⟩)
    · have hk1b : (d.k == 1) = false := by simp [hk1]
      cases hdo : d.ok with
      | false =>
        rw [hdo] at HRi
        clear h hv hL hg hlen hk1 hok hds hdo hl2 he
        go_enter Tryd.func5, Tryd.ntmps5
        go_upto_region 3 with (go_at_call 23; refine (HA.out _ (below_new _ _)).mono ?_; rintro e w5 ⟨rfl, hb5⟩)
        have HB5 : Hid (Below w.heap.size w w5) := (below_new w _).trans (hb5.mono (by simp))
        have HD5 : Hid (DW w5 w.heap.size d) := DW.below (Blk.new w _ _) hb5
        have HG5 : Hid (w.heap.size < w5.heap.size) := by have := hb5.size; simp at this; exact this
        clear hb5
        obtain ⟨x0, x1, x2, x3, x4, x5, x6, x7⟩ := DW.words HD5.out
        have HBd : Hid (Below w.heap.size w w5.drew) := HB5.out.drew
        have HDd : Hid (DW w5.drew w.heap.size d) := DW.below HD5.out (Below.refl _ _).drew
        have HBa : Hid (∀ t, Below w.heap.size w (w5.drew.alloc (.cells #[.string d.r, .string d.f, .string d.q, .int .i64 d.t, .int .i64 d.k, .int .i64 d.vk, .int .i64 d.vn, .string d.s] t))) := fun t => HBd.out.trans ((below_new _ _).mono (by show w.heap.size ≤ w5.heap.size; exact Nat.le_of_lt HG5.out))
        have HDa : Hid (∀ t, DW (w5.drew.alloc (.cells #[.string d.r, .string d.f, .string d.q, .int .i64 d.t, .int .i64 d.k, .int .i64 d.vk, .int .i64 d.vn, .string d.s] t)) w.heap.size d) := fun t => DW.below HDd.out (below_new _ _)
        have HDn : Hid (DW (w5.drew.alloc (.cells #[.string d.r, .string d.f, .string d.q, .int .i64 d.t, .int .i64 d.k, .int .i64 d.vk, .int .i64 d.vn, .string d.s] 28)) w5.drew.heap.size d) := Blk.new w5.drew 28 d.e.toArray
        obtain ⟨y0, y1, y2, y3, y4, y5, y6, y7⟩ := DW.words HDd.out
        (first | (go_region_law (first
          | (go_simp; go_at_call 28; refine (HCp.out _ ?_).mono ?_; (first | exact HBd.out | exact HBa.out _); rintro e w6 ⟨v6, rfl, hr6, hb6⟩; have hd6 : DW w6 w.heap.size d := (by first | exact DW.below HDd.out hb6 | exact DW.below (HDa.out _) hb6); have HD6 := hid hd6; obtain ⟨z0, z1, z2, z3, z4, z5, z6, z7⟩ := DW.words hd6; have HB6 : Hid (Below w.heap.size w w6 ∧ w5.heap.size ≤ w6.heap.size) := (by first | exact ⟨HBd.out.trans (hb6.mono HBd.out.size), hb6.size⟩ | exact ⟨(HBa.out _).trans (hb6.mono (HBa.out _).size), Nat.le_trans (by simp) hb6.size⟩); have HZ6 : Hid (Below w5.heap.size w5 w6) := (by first | exact (Below.refl _ w5).drew.trans hb6 | exact (Below.refl _ w5).drew.trans ((below_new w5.drew _).trans (hb6.mono (by simp)))); have HR6 : Hid (CRow w6 w5.heap.size v6 l) := (by first | exact hr6 | exact hr6.le (by simp)); clear hd6)
          | (refine step_append_cell rfl (.tmp 15) (.tmp 17) rfl _ w5.heap.size v6 l rfl ?_ _ 1 rfl d ?_ HLen.out ?_ ?_; (first | exact HR6.out | exact World.ownsRow.alloc HR6.out _); (first | exact ct_dw (Blk.new w6 28 d.e.toArray) | exact ct_dw (DW.below HDn.out hb6)); (have := HB6.out.2; simp; omega); intro v7 w7 hr7 hb7; have HD7 : Hid (DW w7 w.heap.size d) := (by first | exact DW.keep HD6.out hb7 HG5.out | exact DW.keep (DW.below HD6.out (below_new _ _)) hb7 HG5.out); have HB7 : Hid (Below w.heap.size w w7) := (by first | exact HB6.out.1.trans (hb7.mono (Nat.le_of_lt HG5.out)) | exact (HB6.out.1.trans ((below_new _ _).mono HB6.out.1.size)).trans (hb7.mono (Nat.le_of_lt HG5.out))); have HZ7 : Hid (Below w5.heap.size w5 w7) := (by first | exact HZ6.out.trans hb7 | exact (HZ6.out.trans ((below_new _ _).mono HZ6.out.size)).trans hb7); have HC7 := hid hr7.cla; obtain ⟨t0, t1, t2, t3, t4, t5, t6, t7⟩ := DW.words HD7.out)
          | (go_simp; go_at_call 24; refine (HLg.out _ _ ?_).mono ?_; exact HC7.out; rintro e w8 ⟨rfl, hb8⟩; have HD8 := hid (DW.below HD7.out hb8); have HB8 := hid (HB7.out.trans (hb8.mono HB7.out.size)); obtain ⟨r0, r1, r2, r3, r4, r5, r6, r7⟩ := DW.words HD8.out)
          | (go_simp; go_at_call 26; refine (HRi.out _).mono ?_; rintro e w9 ⟨rfl, hb9⟩; have HD9 := hid (DW.below HD8.out hb9); have HB9 := hid (HB8.out.trans (hb9.mono HB8.out.size))))) | fail)
        all_goals (go_wp2; go_ret; exact ⟨rfl, HB9.out⟩)
      | true =>
        exfalso
        rcases he with q | q | q
        · rw [hg] at q; cases q
        · exact hk1 q
        · rw [hdo] at q; cases q
end Go.Proofs.YtdjaofbjmnmlbaaDoor

/- The statement of layer 6: what a cell tells to be gone isn't seen, and the rest stays. Conditions: the arguments stand, their numbers are of 64 bits; the tables of utf8 read as they are laid. -/
namespace Go.Proofs.YtdjaofbjmnmlbaaDoor
open Go.RowKit
set_option maxHeartbeats 40000000 in
set_option maxRecDepth 100000 in
theorem cellgone_any (v : Value) (l : List CT) (d : CT) (now : Int) (w : World) (h : ClA w v l) (hlen : l.length ≤ 1466015503658) (hv : ∀ c ∈ l, inI c.vn) (hvd : inI d.vn) (hfd : d.f.size ≤ 9223372036854775807) (hL : LaidU w) :
    Calls Tryd.prog 5 #[v, d.v, .int .i64 now] w fun e w' => e = .returned (.bool true) ∧ Below w.heap.size w w' := by
  have mixed : Tryd.prog.follows .mixedOrders = true := by kernel_rfl
  have HA := hid fun W (hb : Below w.heap.size w W) => alive_any W (hL.below hb)
  have HCp : Hid (∀ W, Below w.heap.size w W → Calls Tryd.prog 28 #[v] W fun e w' => ∃ v', e = .returned v' ∧ CRow w' W.heap.size v' l ∧ Below W.heap.size W w') := fun W hb => copycells_any v l hlen W (h.below hb)
  have HLg : Hid (∀ W v', ClA W v' (l ++ [d]) → Calls Tryd.prog 24 #[v'] W fun e w' => e = .returned (.bool (longC (l ++ [d]))) ∧ Below W.heap.size W w') := fun W v' h => long_any v' (l ++ [d]) W h
  have HLen := hid hlen
  cases hg : longC (l ++ [d]) with
  | true => exact cellgone_easy v l d now w h hlen hv hvd hfd hL (.inl hg)
  | false =>
    by_cases hk1 : d.k = 1
    · exact cellgone_easy v l d now w h hlen hv hvd hfd hL (.inr (.inl hk1))
    cases hdo : d.ok with
    | false => exact cellgone_easy v l d now w h hlen hv hvd hfd hL (.inr (.inr hdo))
    | true =>
      rw [hg] at HLg
      obtain ⟨hl2, hok⟩ := longC_ok hg (fun c hc => by rcases List.mem_append.1 hc with q | q; exact hv c q; exact (List.mem_singleton.1 q) ▸ hvd)
      have hds : d.s.size ≤ 4000 := longC_s hg (by simp)
      have HRi : Hid (∀ W, Calls Tryd.prog 26 #[d.v] W fun e w' => e = .returned (.bool d.ok) ∧ Below W.heap.size W w') := fun W => refcright_any d.r d.f d.q d.s d.t d.k d.vk d.vn hfd hds W
      have hk1b : (d.k == 1) = false := by simp [hk1]
      rw [hdo] at HRi
      have hl1 : l.length ≤ 100000 := by have := hl2; rw [List.length_append] at this; omega
      have HS1 : Hid (∀ W, Below w.heap.size w W → Calls Tryd.prog 30 #[v, .int .i64 8, .int .i64 0, .int .i64 now] W fun e w' => ∃ v' s, e = .returned v' ∧ CRow w' W.heap.size v' (seenL 8 0 now s) ∧ Hid (SortOf l s ∧ (seenL 8 0 now s).length ≤ 100000) ∧ Below W.heap.size W w') := fun W hb => (cseen_any v l hl1 8 0 now W (h.below hb) (fun c hc => hok c (List.mem_append_left _ hc)) (hL.below hb)).mono fun _ _ ⟨v', s, h1, h2, h3, h4⟩ => ⟨v', s, h1, h3, ⟨h2, Nat.le_trans (seenL_len 8 0 now s) (Nat.le_trans h2.len hl1)⟩, h4⟩
      have HS2 : Hid (∀ W v2, ClA W v2 (l ++ [d]) → Below w.heap.size w W → Calls Tryd.prog 30 #[v2, .int .i64 8, .int .i64 0, .int .i64 now] W fun e w' => ∃ v' s, e = .returned v' ∧ CRow w' W.heap.size v' (seenL 8 0 now s) ∧ Hid (SortOf (l ++ [d]) s ∧ (seenL 8 0 now s).length ≤ 100000) ∧ Below W.heap.size W w') := fun W v2 h2 hb => (cseen_any v2 (l ++ [d]) hl2 8 0 now W h2 hok (hL.below hb)).mono fun _ _ ⟨v', s, h1, h2, h3, h4⟩ => ⟨v', s, h1, h3, ⟨h2, Nat.le_trans (seenL_len 8 0 now s) (Nat.le_trans h2.len hl2)⟩, h4⟩
      have HGo : Hid (∀ s s', SortOf l s → SortOf (l ++ [d]) s' → (∀ c ∈ seenL 8 0 now s', hitB d c = false) ∧ goneS d (seenL 8 0 now s) (seenL 8 0 now s')) := fun s s' q1 q2 => gone_of q1 q2 hdo hk1
      have HHi : Hid (∀ c W, Calls Tryd.prog 31 #[d.v, CT.v c] W fun e w' => e = .returned (.bool (hitB d c)) ∧ Below W.heap.size W w') := fun c W => hit_any d c W
      clear h hv hL hg hlen hk1 hok hds hdo hl2 hl1
      go_enter Tryd.func5, Tryd.ntmps5
      go_upto_region 3 with (go_at_call 23; refine (HA.out _ (below_new _ _)).mono ?_; rintro e w5 ⟨rfl, hb5⟩)
      have HB5 : Hid (Below w.heap.size w w5) := (below_new w _).trans (hb5.mono (by simp))
      have HD5 : Hid (DW w5 w.heap.size d) := DW.below (Blk.new w _ _) hb5
      have HG5 : Hid (w.heap.size < w5.heap.size) := by have := hb5.size; simp at this; exact this
      clear hb5
      rename_i K1 a1 K0 a0
      suffices HK1 : Hid (∀ (W : World) (t14 t15 t16 t17 t18 t19 t20 t21 t22 t23 t24 t25 t26 t27 t28 t29 : Value), Below w.heap.size w W → DW W w.heap.size d → K1 { tmps := List.toArray (v :: d.v :: .int .i64 now :: undef :: .pointer (some ⟨w.heap.size, 0, none⟩) :: undef :: .bool false :: undef :: undef :: undef :: undef :: undef :: .bool true :: .bool false :: t14 :: t15 :: t16 :: t17 :: t18 :: t19 :: t20 :: t21 :: t22 :: t23 :: t24 :: t25 :: t26 :: t27 :: t28 :: t29 :: undef :: undef :: undef :: undef :: undef :: undef :: undef :: undef :: undef :: undef :: undef :: undef :: undef :: undef :: undef :: undef :: undef :: undef :: undef :: undef :: undef :: undef :: undef :: undef :: undef :: undef :: undef :: undef :: undef :: undef :: undef :: undef :: undef :: undef :: undef :: undef :: undef :: undef :: undef :: undef :: undef :: undef :: undef :: undef :: undef :: undef :: undef :: undef :: undef :: undef :: undef :: undef :: undef :: undef :: undef :: []), defers := [] } W) by
        clear a1 HS1 HS2 HGo HHi
        obtain ⟨x0, x1, x2, x3, x4, x5, x6, x7⟩ := DW.words HD5.out
        have HBd : Hid (Below w.heap.size w w5.drew) := HB5.out.drew
        have HDd : Hid (DW w5.drew w.heap.size d) := DW.below HD5.out (Below.refl _ _).drew
        have HBa : Hid (∀ t, Below w.heap.size w (w5.drew.alloc (.cells #[.string d.r, .string d.f, .string d.q, .int .i64 d.t, .int .i64 d.k, .int .i64 d.vk, .int .i64 d.vn, .string d.s] t))) := fun t => HBd.out.trans ((below_new _ _).mono (by show w.heap.size ≤ w5.heap.size; exact Nat.le_of_lt HG5.out))
        have HDa : Hid (∀ t, DW (w5.drew.alloc (.cells #[.string d.r, .string d.f, .string d.q, .int .i64 d.t, .int .i64 d.k, .int .i64 d.vk, .int .i64 d.vn, .string d.s] t)) w.heap.size d) := fun t => DW.below HDd.out (below_new _ _)
        have HDn : Hid (DW (w5.drew.alloc (.cells #[.string d.r, .string d.f, .string d.q, .int .i64 d.t, .int .i64 d.k, .int .i64 d.vk, .int .i64 d.vn, .string d.s] 28)) w5.drew.heap.size d) := Blk.new w5.drew 28 d.e.toArray
        obtain ⟨y0, y1, y2, y3, y4, y5, y6, y7⟩ := DW.words HDd.out
        (first | (go_region_law (first
          | (go_simp; go_at_call 28; refine (HCp.out _ ?_).mono ?_; (first | exact HBd.out | exact HBa.out _); rintro e w6 ⟨v6, rfl, hr6, hb6⟩; have hd6 : DW w6 w.heap.size d := (by first | exact DW.below HDd.out hb6 | exact DW.below (HDa.out _) hb6); have HD6 := hid hd6; obtain ⟨z0, z1, z2, z3, z4, z5, z6, z7⟩ := DW.words hd6; have HB6 : Hid (Below w.heap.size w w6 ∧ w5.heap.size ≤ w6.heap.size) := (by first | exact ⟨HBd.out.trans (hb6.mono HBd.out.size), hb6.size⟩ | exact ⟨(HBa.out _).trans (hb6.mono (HBa.out _).size), Nat.le_trans (by simp) hb6.size⟩); have HZ6 : Hid (Below w5.heap.size w5 w6) := (by first | exact (Below.refl _ w5).drew.trans hb6 | exact (Below.refl _ w5).drew.trans ((below_new w5.drew _).trans (hb6.mono (by simp)))); have HR6 : Hid (CRow w6 w5.heap.size v6 l) := (by first | exact hr6 | exact hr6.le (by simp)); clear hd6)
          | (refine step_append_cell rfl (.tmp 15) (.tmp 17) rfl _ w5.heap.size v6 l rfl ?_ _ 1 rfl d ?_ HLen.out ?_ ?_; (first | exact HR6.out | exact World.ownsRow.alloc HR6.out _); (first | exact ct_dw (Blk.new w6 28 d.e.toArray) | exact ct_dw (DW.below HDn.out hb6)); (have := HB6.out.2; simp; omega); intro v7 w7 hr7 hb7; have HD7 : Hid (DW w7 w.heap.size d) := (by first | exact DW.keep HD6.out hb7 HG5.out | exact DW.keep (DW.below HD6.out (below_new _ _)) hb7 HG5.out); have HB7 : Hid (Below w.heap.size w w7) := (by first | exact HB6.out.1.trans (hb7.mono (Nat.le_of_lt HG5.out)) | exact (HB6.out.1.trans ((below_new _ _).mono HB6.out.1.size)).trans (hb7.mono (Nat.le_of_lt HG5.out))); have HZ7 : Hid (Below w5.heap.size w5 w7) := (by first | exact HZ6.out.trans hb7 | exact (HZ6.out.trans ((below_new _ _).mono HZ6.out.size)).trans hb7); have HC7 := hid hr7.cla; obtain ⟨t0, t1, t2, t3, t4, t5, t6, t7⟩ := DW.words HD7.out)
          | (go_simp; go_at_call 24; refine (HLg.out _ _ ?_).mono ?_; exact HC7.out; rintro e w8 ⟨rfl, hb8⟩; have HD8 := hid (DW.below HD7.out hb8); have HB8 := hid (HB7.out.trans (hb8.mono HB7.out.size)); obtain ⟨r0, r1, r2, r3, r4, r5, r6, r7⟩ := DW.words HD8.out)
          | (go_simp; go_at_call 26; refine (HRi.out _).mono ?_; rintro e w9 ⟨rfl, hb9⟩; have HD9 := hid (DW.below HD8.out hb9); have HB9 := hid (HB8.out.trans (hb9.mono HB8.out.size))))) | fail)
        all_goals (go_wp2; exact HK1.out _ _ _ _ _ _ _ _ _ _ _ _ _ _ _ _ _ HB9.out HD9.out)
      intro W t14 t15 t16 t17 t18 t19 t20 t21 t22 t23 t24 t25 t26 t27 t28 t29 hBW hDW
      have HG0 := HG5.out
      have HBW := hid hBW
      have HDW := hid hDW
      clear HB5 HD5 HG5 hBW hDW a0 HA HLg HRi
      refine a1 _ _ ?_
      clear a1
      go_upto_region 6 with (go_at_call 30; refine (HS1.out _ HBW.out).mono ?_; rintro e w10 ⟨v10, s10, rfl, hr10, hq10, hb10⟩)
      have HB5 : Hid (Below w.heap.size w w10) := HBW.out.trans (hb10.mono HBW.out.size)
      have HD5 : Hid (DW w10 w.heap.size d) := DW.below HDW.out hb10
      have HG5 : Hid (w.heap.size < w10.heap.size) := by
        have h1 := HDW.out
        have h1 : Blk W w.heap.size 28 d.e.toArray := h1
        exact Nat.lt_of_lt_of_le h1.lt hb10.size
      have HC10 := hid hr10.cla
      clear hb10 hr10 HBW HDW HG0 HS1
      rename_i K6 a6
      suffices HK6 : Hid (∀ (W : World) (v12 : Value) (s12 : List CT) (t14 t15 t16 t17 t18 t19 t20 t21 t22 t23 t24 t25 t26 t27 t28 t29 t30 t31 t32 t33 t34 t35 t36 t37 t38 t39 : Value), Below w.heap.size w W → Below w10.heap.size w10 W → DW W w.heap.size d → ClA W v12 (seenL 8 0 now s12) → Hid (SortOf (l ++ [d]) s12 ∧ (seenL 8 0 now s12).length ≤ 100000) → K6 { tmps := List.toArray (v :: d.v :: .int .i64 now :: undef :: .pointer (some ⟨w.heap.size, 0, none⟩) :: undef :: .bool false :: v10 :: v12 :: undef :: undef :: undef :: .bool true :: .bool false :: t14 :: t15 :: t16 :: t17 :: t18 :: t19 :: t20 :: t21 :: t22 :: t23 :: t24 :: t25 :: t26 :: t27 :: t28 :: t29 :: t30 :: t31 :: t32 :: t33 :: t34 :: t35 :: t36 :: t37 :: t38 :: t39 :: undef :: undef :: undef :: undef :: undef :: undef :: undef :: undef :: undef :: undef :: undef :: undef :: undef :: undef :: undef :: undef :: undef :: undef :: undef :: undef :: undef :: undef :: undef :: undef :: undef :: undef :: undef :: undef :: undef :: undef :: undef :: undef :: undef :: undef :: undef :: undef :: undef :: undef :: undef :: undef :: undef :: undef :: undef :: undef :: undef :: []), defers := [] } W) by
        clear a6 hq10 HC10
        obtain ⟨x0, x1, x2, x3, x4, x5, x6, x7⟩ := DW.words HD5.out
        have HBd : Hid (Below w.heap.size w w10.drew) := HB5.out.drew
        have HDd : Hid (DW w10.drew w.heap.size d) := DW.below HD5.out (Below.refl _ _).drew
        have HBa : Hid (∀ t, Below w.heap.size w (w10.drew.alloc (.cells #[.string d.r, .string d.f, .string d.q, .int .i64 d.t, .int .i64 d.k, .int .i64 d.vk, .int .i64 d.vn, .string d.s] t))) := fun t => HBd.out.trans ((below_new _ _).mono (by show w.heap.size ≤ w10.heap.size; exact Nat.le_of_lt HG5.out))
        have HDa : Hid (∀ t, DW (w10.drew.alloc (.cells #[.string d.r, .string d.f, .string d.q, .int .i64 d.t, .int .i64 d.k, .int .i64 d.vk, .int .i64 d.vn, .string d.s] t)) w.heap.size d) := fun t => DW.below HDd.out (below_new _ _)
        have HDn : Hid (DW (w10.drew.alloc (.cells #[.string d.r, .string d.f, .string d.q, .int .i64 d.t, .int .i64 d.k, .int .i64 d.vk, .int .i64 d.vn, .string d.s] 28)) w10.drew.heap.size d) := Blk.new w10.drew 28 d.e.toArray
        obtain ⟨y0, y1, y2, y3, y4, y5, y6, y7⟩ := DW.words HDd.out
        (first | (go_region_law (first
          | (go_simp; go_at_call 28; refine (HCp.out _ ?_).mono ?_; (first | exact HBd.out | exact HBa.out _); rintro e w6 ⟨v6, rfl, hr6, hb6⟩; have hd6 : DW w6 w.heap.size d := (by first | exact DW.below HDd.out hb6 | exact DW.below (HDa.out _) hb6); have HD6 := hid hd6; obtain ⟨z0, z1, z2, z3, z4, z5, z6, z7⟩ := DW.words hd6; have HB6 : Hid (Below w.heap.size w w6 ∧ w10.heap.size ≤ w6.heap.size) := (by first | exact ⟨HBd.out.trans (hb6.mono HBd.out.size), hb6.size⟩ | exact ⟨(HBa.out _).trans (hb6.mono (HBa.out _).size), Nat.le_trans (by simp) hb6.size⟩); have HZ6 : Hid (Below w10.heap.size w10 w6) := (by first | exact (Below.refl _ w10).drew.trans hb6 | exact (Below.refl _ w10).drew.trans ((below_new w10.drew _).trans (hb6.mono (by simp)))); have HR6 : Hid (CRow w6 w10.heap.size v6 l) := (by first | exact hr6 | exact hr6.le (by simp)); clear hd6)
          | (refine step_append_cell rfl (.tmp 34) (.tmp 36) rfl _ w10.heap.size v6 l rfl ?_ _ 1 rfl d ?_ HLen.out ?_ ?_; (first | exact HR6.out | exact World.ownsRow.alloc HR6.out _); (first | exact ct_dw (Blk.new w6 28 d.e.toArray) | exact ct_dw (DW.below HDn.out hb6)); (have := HB6.out.2; simp; omega); intro v7 w7 hr7 hb7; have HD7 : Hid (DW w7 w.heap.size d) := (by first | exact DW.keep HD6.out hb7 HG5.out | exact DW.keep (DW.below HD6.out (below_new _ _)) hb7 HG5.out); have HB7 : Hid (Below w.heap.size w w7) := (by first | exact HB6.out.1.trans (hb7.mono (Nat.le_of_lt HG5.out)) | exact (HB6.out.1.trans ((below_new _ _).mono HB6.out.1.size)).trans (hb7.mono (Nat.le_of_lt HG5.out))); have HZ7 : Hid (Below w10.heap.size w10 w7) := (by first | exact HZ6.out.trans hb7 | exact (HZ6.out.trans ((below_new _ _).mono HZ6.out.size)).trans hb7); have HC7 := hid hr7.cla; obtain ⟨t0, t1, t2, t3, t4, t5, t6, t7⟩ := DW.words HD7.out)
          | (go_simp; go_at_call 30; refine (HS2.out _ _ HC7.out HB7.out).mono ?_; rintro e w12 ⟨v12, s12, rfl, hr12, hq12, hb12⟩; have HD12 := hid (DW.below HD7.out hb12); have HB12 := hid (HB7.out.trans (hb12.mono HB7.out.size)); have HZ12 := hid (HZ7.out.trans (hb12.mono HZ7.out.size)); have HC12 := hid hr12.cla))) | fail)
        all_goals exact HK6.out _ _ _ _ _ _ _ _ _ _ _ _ _ _ _ _ _ _ _ _ _ _ _ _ _ _ _ _ _ HB12.out HZ12.out HD12.out HC12.out hq12
      intro w9 v12 s12 t14 t15 t16 t17 t18 t19 t20 t21 t22 t23 t24 t25 t26 t27 t28 t29 t30 t31 t32 t33 t34 t35 t36 t37 t38 t39 hBW hZW hDW hC12 hq12
      have HF := hid (HGo.out _ _ hq10.out.1 hq12.out.1)
      have hlu := hq10.out.2
      have hlt := hq12.out.2
      have KU := hid (HC10.out.below hZW)
      have KT := hid hC12
      have HBz := hid hBW
      have HDz := hid hDW
      have HGz : Hid (w.heap.size < w9.heap.size) := Nat.lt_of_lt_of_le HG5.out hZW.size
      obtain ⟨u, hu⟩ : ∃ u, seenL 8 0 now s10 = u := ⟨_, rfl⟩
      rw [hu] at HF KU hlu
      obtain ⟨t, ht⟩ : ∃ t, seenL 8 0 now s12 = t := ⟨_, rfl⟩
      rw [ht] at HF KT hlt
      clear hu ht hq10 hq12 hBW hZW hDW hC12 HC10 HB5 HD5 HG5 HGo HS2 HCp HLen
      obtain ⟨A7, c7, rfl, hc7, hm7, hh7⟩ := KU.out
      obtain ⟨A8, c8, rfl, hc8, hm8, hh8⟩ := KT.out
      have H7 := hid hh7
      have H8 := hid hh8
      clear hh7 hh8 KU KT
      obtain ⟨ma, hma⟩ : ∃ ma, u.length = ma := ⟨_, rfl⟩
      have HMa := hid hma
      rw [hma] at hc7 hlu ⊢
      obtain ⟨mb, hmb⟩ : ∃ mb, t.length = mb := ⟨_, rfl⟩
      have HMb := hid hmb
      rw [hmb] at hc8 hlt ⊢
      clear hma hmb
      refine a6 _ _ ?_
      clear a6
      go_wp2
      go_loopw [9] (fun vi wr => Hid (Below w9.heap.size w9 wr) ∧ ∃ i : Nat, i ≤ mb ∧ vi = .int .i64 i) (fun vi _ => mb - (intOf vi).toNat)
      case atStart => exact ⟨Below.refl _ _, 0, Nat.zero_le _, rfl⟩
      case round =>
        obtain ⟨HB, i, hi, rfl⟩ := hrel
        by_cases hlt2 : i < mb
        · have him : i < t.length := by rw [HMb.out]; exact hlt2
          have hiz : (i : Int) < (mb : Int) := by omega
          obtain ⟨b, off, rfl, hhc⟩ := H8.out (by rw [HMb.out]; omega)
          have hbw : b < w9.heap.size := hhc.lt (by omega)
          obtain ⟨c, hc⟩ : ∃ c, t[i] = c := ⟨_, rfl⟩
          have HT : Hid (Hid (Below wr.heap.size wr wr ∧ w.heap.size < wr.heap.size ∧ b < wr.heap.size) ∧ (wr.cell? ⟨w.heap.size, 0, none⟩ = some (.string d.r) ∧ wr.cell? ⟨w.heap.size, 1, none⟩ = some (.string d.f) ∧ wr.cell? ⟨w.heap.size, 2, none⟩ = some (.string d.q) ∧ wr.cell? ⟨w.heap.size, 3, none⟩ = some (.int .i64 d.t) ∧ wr.cell? ⟨w.heap.size, 4, none⟩ = some (.int .i64 d.k) ∧ wr.cell? ⟨w.heap.size, 5, none⟩ = some (.int .i64 d.vk) ∧ wr.cell? ⟨w.heap.size, 6, none⟩ = some (.int .i64 d.vn) ∧ wr.cell? ⟨w.heap.size, 7, none⟩ = some (.string d.s)) ∧ (wr.cell? ⟨b, off + i * 8, none⟩ = some (.string c.r) ∧ wr.cell? ⟨b, off + i * 8 + 1, none⟩ = some (.string c.f) ∧ wr.cell? ⟨b, off + i * 8 + 2, none⟩ = some (.string c.q) ∧ wr.cell? ⟨b, off + i * 8 + 3, none⟩ = some (.int .i64 c.t) ∧ wr.cell? ⟨b, off + i * 8 + 4, none⟩ = some (.int .i64 c.k) ∧ wr.cell? ⟨b, off + i * 8 + 5, none⟩ = some (.int .i64 c.vk) ∧ wr.cell? ⟨b, off + i * 8 + 6, none⟩ = some (.int .i64 c.vn) ∧ wr.cell? ⟨b, off + i * 8 + 7, none⟩ = some (.string c.s))) := by
            refine ⟨hid ⟨Below.refl _ _, Nat.lt_of_lt_of_le HGz.out HB.out.size, Nat.lt_of_lt_of_le hbw HB.out.size⟩, DW.words (DW.below HDz.out HB.out), ?_⟩
            rw [← hc]
            exact (hhc.below HB.out hbw).words i him
          have HHc : Hid (∀ W, Calls Tryd.prog 31 #[d.v, CT.v c] W fun e w' => e = .returned (.bool false) ∧ Below W.heap.size W w') := fun W => by
            have := HHi.out c W
            rw [HF.out.1 c (by rw [← hc]; exact List.getElem_mem him)] at this
            exact this
          obtain ⟨-, ⟨p0, p1, p2, p3, p4, p5, p6, p7⟩, ⟨k0, k1, k2, k3, k4, k5, k6, k7⟩⟩ := HT.out
          clear hc hhc
          go_upto_region 10 with (fail)
          go_region_held3 (fun W' => Hid (Below wr.heap.size wr W' ∧ w.heap.size < wr.heap.size ∧ b < wr.heap.size) ∧ (W'.cell? ⟨w.heap.size, 0, none⟩ = some (.string d.r) ∧ W'.cell? ⟨w.heap.size, 1, none⟩ = some (.string d.f) ∧ W'.cell? ⟨w.heap.size, 2, none⟩ = some (.string d.q) ∧ W'.cell? ⟨w.heap.size, 3, none⟩ = some (.int .i64 d.t) ∧ W'.cell? ⟨w.heap.size, 4, none⟩ = some (.int .i64 d.k) ∧ W'.cell? ⟨w.heap.size, 5, none⟩ = some (.int .i64 d.vk) ∧ W'.cell? ⟨w.heap.size, 6, none⟩ = some (.int .i64 d.vn) ∧ W'.cell? ⟨w.heap.size, 7, none⟩ = some (.string d.s)) ∧ (W'.cell? ⟨b, off + i * 8, none⟩ = some (.string c.r) ∧ W'.cell? ⟨b, off + i * 8 + 1, none⟩ = some (.string c.f) ∧ W'.cell? ⟨b, off + i * 8 + 2, none⟩ = some (.string c.q) ∧ W'.cell? ⟨b, off + i * 8 + 3, none⟩ = some (.int .i64 c.t) ∧ W'.cell? ⟨b, off + i * 8 + 4, none⟩ = some (.int .i64 c.k) ∧ W'.cell? ⟨b, off + i * 8 + 5, none⟩ = some (.int .i64 c.vk) ∧ W'.cell? ⟨b, off + i * 8 + 6, none⟩ = some (.int .i64 c.vn) ∧ W'.cell? ⟨b, off + i * 8 + 7, none⟩ = some (.string c.s)))
            (first | exact HT.out | exact two_drew HT.out | exact two_call (by assumption) hb3 | exact two_drew (by assumption) | assumption)
            (first | (go_at_call 31; refine (HHc.out _).mono ?_; rintro e w3 ⟨rfl, hb3⟩))
          rename_i hLast
          have HZ := hid hLast.1.out.1
          clear hLast HT p0 k0 p1 k1 p2 k2 p3 k3 p4 k4 p5 k5 p6 k6 p7 k7
          go_wp2
          go_roundw
          case rel => exact ⟨HB.out.trans (HZ.out.mono HB.out.size), i + 1, by omega, by go_num⟩
          case measure => simp [intOf]; omega
        · obtain rfl : i = mb := by omega
          have HDr := hid (DW.below HDz.out HB.out)
          have HGr : Hid (w.heap.size < wr.heap.size) := Nat.lt_of_lt_of_le HGz.out HB.out.size
          go_wp2
          go_loopw [10, 11] (fun vk vi wq => Hid (Below w9.heap.size w9 wq) ∧ ∃ i2 k : Nat, i2 ≤ ma ∧ k ≤ i ∧ vk = .int .i64 k ∧ vi = .int .i64 i2 ∧ Hid (goneS d (u.drop i2) (t.drop k))) (fun _ vi _ => ma - (intOf vi).toNat)
          case atStart => exact ⟨HB.out, 0, 0, Nat.zero_le _, Nat.zero_le _, rfl, rfl, HF.out.2⟩
          case round =>
            clear HB HDr HGr
            obtain ⟨HB, i2, k, hi2, hk, rfl, rfl, HU⟩ := hrel
            by_cases hlt3 : i2 < ma
            · have him : i2 < u.length := by rw [HMa.out]; exact hlt3
              have hiz : (i2 : Int) < (ma : Int) := by omega
              obtain ⟨b, off, rfl, hhc⟩ := H7.out (by rw [HMa.out]; omega)
              have hbw : b < w9.heap.size := hhc.lt (by omega)
              obtain ⟨c, hc⟩ : ∃ c, u[i2] = c := ⟨_, rfl⟩
              have HP : Hid (∀ W, Below w9.heap.size w9 W → W.cell? ⟨b, off + i2 * 8, none⟩ = some (.string c.r) ∧ W.cell? ⟨b, off + i2 * 8 + 1, none⟩ = some (.string c.f) ∧ W.cell? ⟨b, off + i2 * 8 + 2, none⟩ = some (.string c.q) ∧ W.cell? ⟨b, off + i2 * 8 + 3, none⟩ = some (.int .i64 c.t) ∧ W.cell? ⟨b, off + i2 * 8 + 4, none⟩ = some (.int .i64 c.k) ∧ W.cell? ⟨b, off + i2 * 8 + 5, none⟩ = some (.int .i64 c.vk) ∧ W.cell? ⟨b, off + i2 * 8 + 6, none⟩ = some (.int .i64 c.vn) ∧ W.cell? ⟨b, off + i2 * 8 + 7, none⟩ = some (.string c.s)) := fun W hW => by
                rw [← hc]
                exact (hhc.below hW hbw).words i2 him
              have HU0 : Hid (goneS d (c :: u.drop (i2 + 1)) (t.drop k)) := by
                unfold Hid
                rw [← hc, ← List.drop_eq_getElem_cons him]
                exact HU.out
              have HT : Hid (Hid (Below wr.heap.size wr wr ∧ w.heap.size < wr.heap.size ∧ b < wr.heap.size) ∧ (wr.cell? ⟨w.heap.size, 0, none⟩ = some (.string d.r) ∧ wr.cell? ⟨w.heap.size, 1, none⟩ = some (.string d.f) ∧ wr.cell? ⟨w.heap.size, 2, none⟩ = some (.string d.q) ∧ wr.cell? ⟨w.heap.size, 3, none⟩ = some (.int .i64 d.t) ∧ wr.cell? ⟨w.heap.size, 4, none⟩ = some (.int .i64 d.k) ∧ wr.cell? ⟨w.heap.size, 5, none⟩ = some (.int .i64 d.vk) ∧ wr.cell? ⟨w.heap.size, 6, none⟩ = some (.int .i64 d.vn) ∧ wr.cell? ⟨w.heap.size, 7, none⟩ = some (.string d.s)) ∧ (wr.cell? ⟨b, off + i2 * 8, none⟩ = some (.string c.r) ∧ wr.cell? ⟨b, off + i2 * 8 + 1, none⟩ = some (.string c.f) ∧ wr.cell? ⟨b, off + i2 * 8 + 2, none⟩ = some (.string c.q) ∧ wr.cell? ⟨b, off + i2 * 8 + 3, none⟩ = some (.int .i64 c.t) ∧ wr.cell? ⟨b, off + i2 * 8 + 4, none⟩ = some (.int .i64 c.k) ∧ wr.cell? ⟨b, off + i2 * 8 + 5, none⟩ = some (.int .i64 c.vk) ∧ wr.cell? ⟨b, off + i2 * 8 + 6, none⟩ = some (.int .i64 c.vn) ∧ wr.cell? ⟨b, off + i2 * 8 + 7, none⟩ = some (.string c.s))) := ⟨hid ⟨Below.refl _ _, Nat.lt_of_lt_of_le HGz.out HB.out.size, Nat.lt_of_lt_of_le hbw HB.out.size⟩, DW.words (DW.below HDz.out HB.out), HP.out wr HB.out⟩
              obtain ⟨-, ⟨p0, p1, p2, p3, p4, p5, p6, p7⟩, ⟨k0, k1, k2, k3, k4, k5, k6, k7⟩⟩ := HT.out
              have HHc := hid (HHi.out c)
              clear hc hhc HU
              cases hh : hitB d c with
              | true =>
                rw [hh] at HHc
                have HU2 := hid (goneS_hit HU0.out hh)
                clear hh HU0
                go_upto_region 16 with (fail)
                go_region_held3 (fun W' => Hid (Below wr.heap.size wr W' ∧ w.heap.size < wr.heap.size ∧ b < wr.heap.size) ∧ (W'.cell? ⟨w.heap.size, 0, none⟩ = some (.string d.r) ∧ W'.cell? ⟨w.heap.size, 1, none⟩ = some (.string d.f) ∧ W'.cell? ⟨w.heap.size, 2, none⟩ = some (.string d.q) ∧ W'.cell? ⟨w.heap.size, 3, none⟩ = some (.int .i64 d.t) ∧ W'.cell? ⟨w.heap.size, 4, none⟩ = some (.int .i64 d.k) ∧ W'.cell? ⟨w.heap.size, 5, none⟩ = some (.int .i64 d.vk) ∧ W'.cell? ⟨w.heap.size, 6, none⟩ = some (.int .i64 d.vn) ∧ W'.cell? ⟨w.heap.size, 7, none⟩ = some (.string d.s)) ∧ (W'.cell? ⟨b, off + i2 * 8, none⟩ = some (.string c.r) ∧ W'.cell? ⟨b, off + i2 * 8 + 1, none⟩ = some (.string c.f) ∧ W'.cell? ⟨b, off + i2 * 8 + 2, none⟩ = some (.string c.q) ∧ W'.cell? ⟨b, off + i2 * 8 + 3, none⟩ = some (.int .i64 c.t) ∧ W'.cell? ⟨b, off + i2 * 8 + 4, none⟩ = some (.int .i64 c.k) ∧ W'.cell? ⟨b, off + i2 * 8 + 5, none⟩ = some (.int .i64 c.vk) ∧ W'.cell? ⟨b, off + i2 * 8 + 6, none⟩ = some (.int .i64 c.vn) ∧ W'.cell? ⟨b, off + i2 * 8 + 7, none⟩ = some (.string c.s)))
                  (first | exact HT.out | exact two_drew HT.out | exact two_call (by assumption) hb3 | exact two_drew (by assumption) | assumption)
                  (first | (go_at_call 31; refine (HHc.out _).mono ?_; rintro e w3 ⟨rfl, hb3⟩))
                rename_i hLast
                have HZ := hid hLast.1.out.1
                clear hLast HT p0 k0 p1 k1 p2 k2 p3 k3 p4 k4 p5 k5 p6 k6 p7 k7
                go_wp2
                go_roundw
                case rel => exact ⟨HB.out.trans (HZ.out.mono HB.out.size), i2 + 1, k, by omega, by omega, rfl, by go_num, HU2.out⟩
                case measure => simp [intOf]; omega
              | false =>
                rw [hh] at HHc
                have HU2 := hid (goneS_not HU0.out hh)
                obtain ⟨rest, hrest⟩ : ∃ rest, (u.drop (i2 + 1)).filter (fun c => !hitB d c) = rest := ⟨_, rfl⟩
                rw [hrest] at HU2
                have HRs := hid hrest
                clear hh HU0 hrest
                go_upto_region 16 with (fail)
                go_region_held3 (fun W' => Hid (Below wr.heap.size wr W' ∧ w.heap.size < wr.heap.size ∧ b < wr.heap.size) ∧ (W'.cell? ⟨w.heap.size, 0, none⟩ = some (.string d.r) ∧ W'.cell? ⟨w.heap.size, 1, none⟩ = some (.string d.f) ∧ W'.cell? ⟨w.heap.size, 2, none⟩ = some (.string d.q) ∧ W'.cell? ⟨w.heap.size, 3, none⟩ = some (.int .i64 d.t) ∧ W'.cell? ⟨w.heap.size, 4, none⟩ = some (.int .i64 d.k) ∧ W'.cell? ⟨w.heap.size, 5, none⟩ = some (.int .i64 d.vk) ∧ W'.cell? ⟨w.heap.size, 6, none⟩ = some (.int .i64 d.vn) ∧ W'.cell? ⟨w.heap.size, 7, none⟩ = some (.string d.s)) ∧ (W'.cell? ⟨b, off + i2 * 8, none⟩ = some (.string c.r) ∧ W'.cell? ⟨b, off + i2 * 8 + 1, none⟩ = some (.string c.f) ∧ W'.cell? ⟨b, off + i2 * 8 + 2, none⟩ = some (.string c.q) ∧ W'.cell? ⟨b, off + i2 * 8 + 3, none⟩ = some (.int .i64 c.t) ∧ W'.cell? ⟨b, off + i2 * 8 + 4, none⟩ = some (.int .i64 c.k) ∧ W'.cell? ⟨b, off + i2 * 8 + 5, none⟩ = some (.int .i64 c.vk) ∧ W'.cell? ⟨b, off + i2 * 8 + 6, none⟩ = some (.int .i64 c.vn) ∧ W'.cell? ⟨b, off + i2 * 8 + 7, none⟩ = some (.string c.s)))
                  (first | exact HT.out | exact two_drew HT.out | exact two_call (by assumption) hb3 | exact two_drew (by assumption) | assumption)
                  (first | (go_at_call 31; refine (HHc.out _).mono ?_; rintro e w3 ⟨rfl, hb3⟩))
                rename_i hLast
                have HZ := hid (HB.out.trans (hLast.1.out.1.mono HB.out.size))
                clear hLast HT p0 k0 p1 k1 p2 k2 p3 k3 p4 k4 p5 k5 p6 k6 p7 k7
                go_wp2
                go_loopw [10] (fun vk wz => Hid (Below w9.heap.size w9 wz) ∧ ∃ k : Nat, k ≤ i ∧ vk = .int .i64 k ∧ Hid ((c :: rest).Sublist (t.drop k))) (fun vk _ => i - (intOf vk).toNat)
                case atStart => exact ⟨HZ.out, k, hk, rfl, HU2.out⟩
                case round =>
                  clear HB HU2
                  obtain ⟨HB, k, hk, rfl, HU⟩ := hrel
                  have hkm : k < i := by
                    false_or_by_contra
                    rename_i q
                    have h0 := HU.out
                    rw [show t.drop k = [] from List.drop_of_length_le (by rw [HMb.out]; omega)] at h0
                    exact sub_none h0
                  have hkt : k < t.length := by rw [HMb.out]; exact hkm
                  have hkz : (k : Int) < (i : Int) := by omega
                  have hkne : ((k : Int) == (i : Int)) = false := by simp; omega
                  obtain ⟨b8, off8, rfl, hhd⟩ := H8.out (by rw [HMb.out]; omega)
                  have hbw8 : b8 < w9.heap.size := hhd.lt (by omega)
                  obtain ⟨x, hx⟩ : ∃ x, t[k] = x := ⟨_, rfl⟩
                  have Pd : wr.cell? ⟨b8, off8 + k * 8, none⟩ = some (.string x.r) ∧ wr.cell? ⟨b8, off8 + k * 8 + 1, none⟩ = some (.string x.f) ∧ wr.cell? ⟨b8, off8 + k * 8 + 2, none⟩ = some (.string x.q) ∧ wr.cell? ⟨b8, off8 + k * 8 + 3, none⟩ = some (.int .i64 x.t) ∧ wr.cell? ⟨b8, off8 + k * 8 + 4, none⟩ = some (.int .i64 x.k) ∧ wr.cell? ⟨b8, off8 + k * 8 + 5, none⟩ = some (.int .i64 x.vk) ∧ wr.cell? ⟨b8, off8 + k * 8 + 6, none⟩ = some (.int .i64 x.vn) ∧ wr.cell? ⟨b8, off8 + k * 8 + 7, none⟩ = some (.string x.s) := by
                    rw [← hx]
                    exact (hhd.below HB.out hbw8).words k hkt
                  have HU1 : Hid ((c :: rest).Sublist (x :: t.drop (k + 1))) := by
                    have := HU.out
                    rw [List.drop_eq_getElem_cons hkt, hx] at this
                    exact this
                  have HU3 : Hid (goneS d (u.drop (i2 + 1)) (t.drop k)) := by
                    unfold Hid goneS
                    rw [HRs.out]
                    exact (List.sublist_cons_self _ _).trans HU.out
                  obtain ⟨p0, p1, p2, p3, p4, p5, p6, p7⟩ := HP.out wr HB.out
                  obtain ⟨d0, d1, d2, d3, d4, d5, d6, d7⟩ := Pd
                  clear hx hhd HU
                  by_cases he : x = c
                  · subst he
                    go_upto_region 17 with (fail)
                    go_quiet (fail)
                    go_wp2
                    go_roundw
                    case rel => exact ⟨Go.below_drewN HB.out _, i2 + 1, k, by omega, by omega, rfl, by go_num, HU3.out⟩
                    case measure => simp [intOf]; omega
                  · have HU2 := hid (sub_ne HU1.out he)
                    by_cases e0 : x.r = c.r
                    · have n0 : x.r.toList = c.r.toList := by rw [e0]
                      by_cases e1 : x.f = c.f
                      · have n1 : x.f.toList = c.f.toList := by rw [e1]
                        by_cases e2 : x.q = c.q
                        · have n2 : x.q.toList = c.q.toList := by rw [e2]
                          by_cases e3 : x.t = c.t
                          · have n3 : x.t = c.t := e3
                            by_cases e4 : x.k = c.k
                            · have n4 : x.k = c.k := e4
                              by_cases e5 : x.vk = c.vk
                              · have n5 : x.vk = c.vk := e5
                                by_cases e6 : x.vn = c.vn
                                · have n6 : x.vn = c.vn := e6
                                  by_cases e7 : x.s = c.s
                                  · have n7 : x.s.toList = c.s.toList := by rw [e7]
                                    exfalso
                                    apply he
                                    cases x; cases c; simp only at e0 e1 e2 e3 e4 e5 e6 e7; subst e0 e1 e2 e3 e4 e5 e6 e7; rfl
                                  · have n7 : ¬ x.s.toList = c.s.toList := ba_ne2 e7
                                    clear he e0 e1 e2 e3 e4 e5 e6 e7
                                    go_upto_region 17 with (fail)
                                    go_quiet (fail)
                                    go_wp2
                                    go_roundw
                                    case rel => exact ⟨Go.below_drewN HB.out _, k + 1, by omega, by go_num, HU2.out⟩
                                    case measure => simp [intOf]; omega
                                · have n6 : ¬ x.vn = c.vn := e6
                                  clear he e0 e1 e2 e3 e4 e5 e6
                                  go_upto_region 17 with (fail)
                                  go_quiet (fail)
                                  go_wp2
                                  go_roundw
                                  case rel => exact ⟨Go.below_drewN HB.out _, k + 1, by omega, by go_num, HU2.out⟩
                                  case measure => simp [intOf]; omega
                              · have n5 : ¬ x.vk = c.vk := e5
                                clear he e0 e1 e2 e3 e4 e5
                                go_upto_region 17 with (fail)
                                go_quiet (fail)
                                go_wp2
                                go_roundw
                                case rel => exact ⟨Go.below_drewN HB.out _, k + 1, by omega, by go_num, HU2.out⟩
                                case measure => simp [intOf]; omega
                            · have n4 : ¬ x.k = c.k := e4
                              clear he e0 e1 e2 e3 e4
                              go_upto_region 17 with (fail)
                              go_quiet (fail)
                              go_wp2
                              go_roundw
                              case rel => exact ⟨Go.below_drewN HB.out _, k + 1, by omega, by go_num, HU2.out⟩
                              case measure => simp [intOf]; omega
                          · have n3 : ¬ x.t = c.t := e3
                            clear he e0 e1 e2 e3
                            go_upto_region 17 with (fail)
                            go_quiet (fail)
                            go_wp2
                            go_roundw
                            case rel => exact ⟨Go.below_drewN HB.out _, k + 1, by omega, by go_num, HU2.out⟩
                            case measure => simp [intOf]; omega
                        · have n2 : ¬ x.q.toList = c.q.toList := ba_ne2 e2
                          clear he e0 e1 e2
                          go_upto_region 17 with (fail)
                          go_quiet (fail)
                          go_wp2
                          go_roundw
                          case rel => exact ⟨Go.below_drewN HB.out _, k + 1, by omega, by go_num, HU2.out⟩
                          case measure => simp [intOf]; omega
                      · have n1 : ¬ x.f.toList = c.f.toList := ba_ne2 e1
                        clear he e0 e1
                        go_upto_region 17 with (fail)
                        go_quiet (fail)
                        go_wp2
                        go_roundw
                        case rel => exact ⟨Go.below_drewN HB.out _, k + 1, by omega, by go_num, HU2.out⟩
                        case measure => simp [intOf]; omega
                    · have n0 : ¬ x.r.toList = c.r.toList := ba_ne2 e0
                      clear he e0
                      go_upto_region 17 with (fail)
                      go_quiet (fail)
                      go_wp2
                      go_roundw
                      case rel => exact ⟨Go.below_drewN HB.out _, k + 1, by omega, by go_num, HU2.out⟩
                      case measure => simp [intOf]; omega
            · obtain rfl : i2 = ma := by omega
              go_wp2
              go_ret
              exact ⟨rfl, HBz.out.trans (HB.out.mono HBz.out.size)⟩
end Go.Proofs.YtdjaofbjmnmlbaaDoor

/- An argument []api.Cell opened, with how long it may be: the reach of the machine's memory bounds it. Conditions: as it names them. -/
namespace Go.Proofs.YtdjaofbjmnmlbaaDoor
open Go.ChangeShapes Go.WideShapes Go.ChangeAt Go.RowKit

theorem bytesCell : Tryd.prog.bytesOf 28 = 96 := by kernel_rfl
section
variable {H : Type} {enc : TypeId × Value → H} {W : World}
set_option maxRecDepth 100000 in
theorem open_cla2 {r : Reach} {b0 b1 : Nat} {v : Value} {d : DataW H} {p : List MemPlace} (hv : Value.okWide Tryd.prog W r b0 39 v) (h : DataW.Trod enc Tryd.prog W b1 (fun _ => true) true 39 v d p)
    (hw : ∀ n ∈ d.weights Tryd.prog 39, n ≤ reachBytes) : ∃ l, ClA W v l ∧ (∀ c ∈ l, inI c.vn) ∧ l.length ≤ 1466015503658 := by
  obtain ⟨l, hC, hn⟩ := open_cla hv h
  refine ⟨l, hC, hn, ?_⟩
  obtain ⟨A, c, e, _⟩ := hC
  obtain ⟨a0, len, cap, rfl⟩ := okWide_slice Tryd.underlying39 hv
  have el : len = l.length := by injection e
  obtain ⟨fuel, hf⟩ := h
  rcases DataW.trod_slice Tryd.underlying39 hf with ⟨hcs, _⟩ | ⟨a, len', cap', elems, rest, n, hfu, hcs, hx, hb, hl, hm, he, _⟩
  · simp [Value.cells] at hcs
    omega
  · simp [Value.cells] at hcs
    obtain ⟨rfl, rfl, rfl⟩ := hcs
    have hd := (Prod.mk.inj hx).1
    have hb : (elems.length + rest.length) * 96 ≤ reachBytes := by
      apply hw
      rw [hd]
      simp only [DataW.weights, Tryd.underlying39, bytesCell, List.length_map]
      exact List.mem_cons_self
    unfold reachBytes at hb
    omega
end
end Go.Proofs.YtdjaofbjmnmlbaaDoor

/- CellGone: what a cell tells to be gone is not seen, and the rest stays. The row and its tied card. Conditions: none but the card's own (the listed variables of the library are laid by the program's text). -/
namespace Go.Proofs.YtdjaofbjmnmlbaaDoor.cellGone
open Go.ChangeShapes Go.WideShapes Go.ChangeAt Go.RowKit

set_option maxRecDepth 100000 in
/-- What the walk gives, for every argument and every world that holds the listed variables. -/
theorem contract (H : Type) (enc : TypeId × Value → H) (W : World) (base : Nat) (args : Array Value) (ds gs : List (DataW H)) (before : List MemPlace)
    (hval : ∀ (j : Nat) t v, Tryd.f5.params[j]? = some t → args[j]? = some v → Value.okWide Tryd.prog W .any base t v)
    (hW : DataW.Whole enc Tryd.prog Tryd.f5.params.toList Rows.cellGoneSpec.vars false W args.toList ds gs before) (hL : laidMetH Tryd.prog Rows.cellGoneRow.laid W) (hz : (DataW.weightsEach Tryd.prog (Tryd.f5.params.toList ++ (OpenSpec.ofChange Rows.cellGoneSpec).bare.plain.varTypes Tryd.prog) (ds ++ gs)).all (· ≤ reachBytes) = true) :
    Calls Tryd.prog 5 args W fun e W' => ∃ v, e = .returned v ∧ Rows.cellGoneSpec.post enc Tryd.prog Tryd.f5 false true false false W args v W' := by
  have hW' := hW
  obtain ⟨p, q, hA0, hV, rfl, hfz, hnd⟩ := hW
  have hA : DataW.TrodAll enc Tryd.prog W 0 (fun _ => true) true Tryd.f5.params.toList args.toList ds p := hA0
  rw [Tryd.params5] at hA hval hz
  obtain ⟨v0, vs0, d0, ds0, p0, q_0, hargs, rfl, rfl, h0, r_0⟩ := trodAll_cons hA
  obtain ⟨v1, vs1, d1, ds1, p1, q_1, rfl, rfl, rfl, h1, r_1⟩ := trodAll_cons r_0
  obtain ⟨v2, vs2, d2, ds2, p2, q_2, rfl, rfl, rfl, h2, r_2⟩ := trodAll_cons r_1
  obtain ⟨rfl, rfl, rfl⟩ := trodAll_nil r_2
  obtain rfl : args = #[v0, v1, v2] := by cases args; simp_all
  obtain ⟨rfl, rfl⟩ := trodVars_none hV
  obtain ⟨l0, hs0, hv0, hb0⟩ := open_cla2 (hval 0 39 v0 rfl rfl) h0 (fun n hn => of_decide_eq_true (List.all_eq_true.1 hz n (DataW.weights_mem_each (j := 0) (t := 39) (d := d0) rfl rfl n hn)))
  obtain ⟨r1, f1, q1, t1, k1, vk1, vn1, s1, rfl, rfl, rfl, wr1, wf1, wq1, wt1, wk1, wvk1, wn1, ws1⟩ := open_cell (hval 1 28 v1 rfl rfl) h1
  have hr1 : r1.size ≤ 9223372036854775807 := size_of wr1
  have hf1 : f1.size ≤ 9223372036854775807 := size_of wf1
  have hq1 : q1.size ≤ 9223372036854775807 := size_of wq1
  have hs1 : s1.size ≤ 9223372036854775807 := size_of ws1
  obtain ⟨c2, rfl, rfl, rfl, wc2⟩ := open_int Tryd.underlying3 (hval 2 3 v2 rfl rfl) h2
  clear hA0
  simp only [List.append_nil] at hW'
  have hL2 : LaidU W := laid_u6 (seat_met6 hL)
  have hlt0 : ∀ x ∈ p0, x.block < W.heap.size := fun x hx => by simpa using hW'.lt x (by simp [hx])
  refine (cellgone_any v0 l0 ⟨r1, f1, q1, t1, k1, vk1, vn1, s1⟩ c2 W hs0 hb0 hv0 (inI_of_wf2 wn1) hf1 hL2).mono fun e W' ⟨he, hg⟩ => ?_
  subst he
  exact ⟨_, rfl, _, _, _, [], (p0 ++ ([] ++ ([] ++ []))), [], hW', trodAll_cons_mk (shut_bool Tryd.underlying4 _) trodAll_mk0, (trodAll_cons_mk (Below.trod laid_out (by kernel_rfl) (of_decide_eq_true (by kernel_rfl)) h0 hg hlt0) (trodAll_cons_mk (shut_cell r1 f1 q1 t1 k1 vk1 vn1 s1 wr1 wf1 wq1 wt1 wk1 wvk1 wn1 ws1 0) (trodAll_cons_mk (shut_int Tryd.underlying3 wc2) trodAll_mk0))), rfl, hg.frame _, fun h => by cases h⟩

theorem reads (os : Os) (H : Type) (enc : TypeId × Value → H) : ∃ places, DataW.whole enc Tryd.prog ((laidWorld5 os).forCall (fun _ _ => 0) ⟨#[], #[.slice none 0 0, .agg #[.string ByteArray.empty, .string ByteArray.empty, .string ByteArray.empty, .int .i64 0, .int .i64 0, .int .i64 0, .int .i64 0, .string ByteArray.empty], .int .i64 0], []⟩).memory Tryd.f5.params.toList Rows.cellGoneSpec.vars false #[Value.slice none 0 0, Value.agg #[.string ByteArray.empty, .string ByteArray.empty, .string ByteArray.empty, .int .i64 0, .int .i64 0, .int .i64 0, .int .i64 0, .string ByteArray.empty], Value.int .i64 0].toList 12 = some ([.nil, .agg [.lit (.string []), .lit (.string []), .lit (.string []), .lit (.int .i64 0), .lit (.int .i64 0), .agg [.lit (.int .i64 0), .lit (.int .i64 0), .lit (.string [])]], .lit (.int .i64 0)], [], places) :=
  ⟨[], by kernel_rfl⟩

set_option maxRecDepth 100000 in
theorem lifted (os : Os) (started : os.Started) (H : Type) (enc : TypeId × Value → H) (F : Stop.Interp) :
    ReturnsInHanded {} Tryd.checked os 5 .any ((OpenSpec.ofChange Rows.cellGoneSpec).preRow enc Tryd.prog Tryd.f5 Rows.cellGoneRow.domain false Rows.cellGoneRow.laid) (((OpenSpec.ofChange Rows.cellGoneSpec).at F).post enc Tryd.prog Tryd.f5 false true false false) := by
  obtain ⟨places, hx⟩ := reads os H enc
  refine returnsInHanded_of_row (C := Tryd.checked) (s := OpenSpec.ofChange Rows.cellGoneSpec) seat_own started (by kernel_rfl) Tryd.func5
    (witness_row_at (enc := enc) (C := Tryd.checked) false (laidWorld5 os) #[.slice none 0 0, .agg #[.string ByteArray.empty, .string ByteArray.empty, .string ByteArray.empty, .int .i64 0, .int .i64 0, .int .i64 0, .int .i64 0, .string ByteArray.empty], .int .i64 0] rfl (by kernel_rfl) (by kernel_rfl) (by kernel_rfl)
      (OpenSpec.preRow_of_cond 12 hx (by kernel_rfl) (fun k hk => by cases hk) (by kernel_rfl) (laid_met6 os _))) ?_
  intro W base args ds gs before hval hW _ _ hz hL _ _
  exact contract H enc W base args ds gs before hval hW hL hz

theorem said : Rows.CellGoneSaid :=
  OpenClaim.holds_of_cond 5 Tryd.f5 rfl rfl rfl rfl rfl rfl rfl ⟨rfl, rfl, rfl, rfl, rfl⟩ rfl rfl rfl rfl rfl (by kernel_rfl) Tryd.func5 (by kernel_rfl)
    (of_decide_eq_true (by kernel_rfl)) (by unfold Func.isWrapper; first | (rw [if_pos (by decide +kernel)]; kernel_rfl) | (rw [if_neg (by decide +kernel)]; exact ⟨rfl, rfl⟩))
    (fun os started H enc _ F => by rw [OpenClaim.pre_eq_preRow]; exact lifted os started H enc F)

theorem plain (f : FuncId) (fn : Func) (hf : Tryd.pinned.checked.prog.funcNamed "joist/joistlaw06.CellGone" = some f) (hfn : Tryd.pinned.checked.prog.funcs[f]? = some fn) :
    true = Tryd.pinned.checked.prog.looks [] ∧ ∀ (j : Nat) t, fn.params[j]? = some t → Tryd.pinned.checked.prog.wantsStandIn t = false := by
  obtain rfl : f = 5 := Option.some.inj ((show Tryd.prog.funcNamed "joist/joistlaw06.CellGone" = some 5 by kernel_rfl).symm.trans hf) |>.symm
  obtain rfl : fn = Tryd.f5 := (Option.some.inj (Tryd.func5.symm.trans hfn)).symm
  refine ⟨by kernel_rfl, fun j t ht => ?_⟩
  rw [Tryd.params5] at ht
  have hm := Array.mem_of_getElem? ht
  rcases (show t = 39 ∨ t = 28 ∨ t = 3 by simpa using hm) with rfl | rfl | rfl
  · exact (show Tryd.prog.wantsStandIn 39 = false by kernel_rfl)
  · exact (show Tryd.prog.wantsStandIn 28 = false by kernel_rfl)
  · exact (show Tryd.prog.wantsStandIn 3 = false by kernel_rfl)

/-- THE CARD. -/
theorem card : Rows.CellGoneCardSaid :=
  Claim7.holds_tied_plain_at .later [] _ _ _ _ said (fun _ h => by cases h) (by kernel_rfl) (fun _ h => by cases h) cellGone_row_tie rfl ⟨rfl, rfl⟩ (by kernel_rfl) rfl plain (by kernel_rfl)
end Go.Proofs.YtdjaofbjmnmlbaaDoor.cellGone
namespace Go.Proofs.YtdjaofbjmnmlbaaDoor
theorem cellGone_card : Rows.CellGoneCardSaid := cellGone.card
end Go.Proofs.YtdjaofbjmnmlbaaDoor
