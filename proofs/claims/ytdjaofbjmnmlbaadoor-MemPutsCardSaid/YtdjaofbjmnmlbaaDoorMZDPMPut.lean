/- Several texts in one: ZD PMPut. Conditions: as each theorem names them. -/
import Derived.Test.YtdjaofbjmnmlbaaDoorMECZC
import Derived.Deep.RegionLaw
import Derived.Deep.RegionWith
import Derived.Deep.RegionHeld3
import Derived.Deep.QuietTactic
/- The statement of layer 7: every row of Puts leaves the document's cells. Conditions: the arguments stand, their numbers are of 64 bits; the tables of utf8 read as they are laid. -/
namespace Go.Proofs.YtdjaofbjmnmlbaaDoor
open Go.RowKit

section
variable {WE W W' : World} {p q rb : Nat} {g : CT} {rv : Value}
abbrev FinW (WE : World) (p q rb : Nat) (g : CT) (rv : Value) (W : World) : Prop := Hid (Below WE.heap.size WE W ∧ p < WE.heap.size ∧ q < WE.heap.size ∧ rb < WE.heap.size) ∧ (W.cell? ⟨p, 0, none⟩ = some (.string g.r) ∧ W.cell? ⟨p, 1, none⟩ = some (.string g.f) ∧ W.cell? ⟨p, 2, none⟩ = some (.string g.q) ∧ W.cell? ⟨p, 3, none⟩ = some (.int .i64 g.t) ∧ W.cell? ⟨p, 4, none⟩ = some (.int .i64 g.k) ∧ W.cell? ⟨p, 5, none⟩ = some (.int .i64 g.vk) ∧ W.cell? ⟨p, 6, none⟩ = some (.int .i64 g.vn) ∧ W.cell? ⟨p, 7, none⟩ = some (.string g.s)) ∧ (W.cell? ⟨q, 0, none⟩ = some (.string g.r) ∧ W.cell? ⟨q, 1, none⟩ = some (.string g.f) ∧ W.cell? ⟨q, 2, none⟩ = some (.string g.q) ∧ W.cell? ⟨q, 3, none⟩ = some (.int .i64 g.t) ∧ W.cell? ⟨q, 4, none⟩ = some (.int .i64 g.k) ∧ W.cell? ⟨q, 5, none⟩ = some (.int .i64 g.vk) ∧ W.cell? ⟨q, 6, none⟩ = some (.int .i64 g.vn) ∧ W.cell? ⟨q, 7, none⟩ = some (.string g.s)) ∧ W.cell? ⟨rb, 0, none⟩ = some rv
theorem fin_drew (h : FinW WE p q rb g rv W) : FinW WE p q rb g rv W.drew := ⟨hid ⟨h.1.out.1.drew, h.1.out.2⟩, h.2⟩
theorem fin_below (h : FinW WE p q rb g rv W) : Below WE.heap.size WE W := h.1.out.1
theorem fin_call (h : FinW WE p q rb g rv W) (hb : Below W.heap.size W W') : FinW WE p q rb g rv W' := by
  obtain ⟨hh, ⟨a0, a1, a2, a3, a4, a5, a6, a7⟩, ⟨b0, b1, b2, b3, b4, b5, b6, b7⟩, r0⟩ := h
  obtain ⟨hbw, h1, h2, h3⟩ := hh.out
  have hz := hbw.size
  have hc : ∀ b o, b < WE.heap.size → W'.cell? ⟨b, o, none⟩ = W.cell? ⟨b, o, none⟩ := fun b o h => hb.cell (p := ⟨b, o, none⟩) (show b < W.heap.size by omega)
  refine ⟨hid ⟨hbw.trans (hb.mono hz), h1, h2, h3⟩, ⟨?_, ?_, ?_, ?_, ?_, ?_, ?_, ?_⟩, ⟨?_, ?_, ?_, ?_, ?_, ?_, ?_, ?_⟩, ?_⟩ <;> (rw [hc _ _ (by omega)]; assumption)
end

set_option maxHeartbeats 40000000 in
set_option maxRecDepth 100000 in
theorem memputs_any (v : Value) (l : List CT) (c : CT) (row : ByteArray) (w : World) (h : ClA w v l) (hlen : l.length ≤ 1466015503658) (hv : ∀ c ∈ l, inI c.vn) (hvc : inI c.vn) (hL : LaidU w) :
    Calls Tryd.prog 7 #[v, c.v, .string row] w fun e w' => e = .returned (.bool true) ∧ Below w.heap.size w w' := by
  have mixed : Tryd.prog.follows .mixedOrders = true := by kernel_rfl
  have HA := hid fun W (hb : Below w.heap.size w W) => malive_any W (hL.below hb)
  have HCp : Hid (∀ W, Below w.heap.size w W → Calls Tryd.prog 28 #[v] W fun e w' => ∃ v', e = .returned v' ∧ CRow w' W.heap.size v' l ∧ Below W.heap.size W w') := fun W hb => copycells_any v l hlen W (h.below hb)
  have HLg : Hid (∀ W v', ClA W v' (l ++ [c]) → Calls Tryd.prog 33 #[v', .int .i64 200] W fun e w' => e = .returned (.bool (longM 200 (l ++ [c]))) ∧ Below W.heap.size W w') := fun W v' h => longcells_at 200 v' (l ++ [c]) W h
  have HLen := hid hlen
  cases hg : longM 200 (l ++ [c]) with
  | true =>
    rw [hg] at HLg
    clear h hv hL hg hlen
    go_enter Tryd.func7, Tryd.ntmps7
    go_upto_region 3 with (go_at_call 32; refine (HA.out _ (below_new _ _)).mono ?_; rintro e w5 ⟨rfl, hb5⟩)
    have HB5 : Hid (Below w.heap.size w w5) := (below_new w _).trans (hb5.mono (by simp))
    have HD5 : Hid (DW w5 w.heap.size c) := DW.below (Blk.new w _ _) hb5
    have HG5 : Hid (w.heap.size < w5.heap.size) := by have := hb5.size; simp at this; exact this
    clear hb5
    obtain ⟨x0, x1, x2, x3, x4, x5, x6, x7⟩ := DW.words HD5.out
    have HBd : Hid (Below w.heap.size w w5.drew) := HB5.out.drew
    have HDd : Hid (DW w5.drew w.heap.size c) := DW.below HD5.out (Below.refl _ _).drew
    have HBa : Hid (∀ t, Below w.heap.size w (w5.drew.alloc (.cells #[.string c.r, .string c.f, .string c.q, .int .i64 c.t, .int .i64 c.k, .int .i64 c.vk, .int .i64 c.vn, .string c.s] t))) := fun t => HBd.out.trans ((below_new _ _).mono (by show w.heap.size ≤ w5.heap.size; exact Nat.le_of_lt HG5.out))
    have HDa : Hid (∀ t, DW (w5.drew.alloc (.cells #[.string c.r, .string c.f, .string c.q, .int .i64 c.t, .int .i64 c.k, .int .i64 c.vk, .int .i64 c.vn, .string c.s] t)) w.heap.size c) := fun t => DW.below HDd.out (below_new _ _)
    have HDn : Hid (DW (w5.drew.alloc (.cells #[.string c.r, .string c.f, .string c.q, .int .i64 c.t, .int .i64 c.k, .int .i64 c.vk, .int .i64 c.vn, .string c.s] 28)) w5.drew.heap.size c) := Blk.new w5.drew 28 c.e.toArray
    obtain ⟨y0, y1, y2, y3, y4, y5, y6, y7⟩ := DW.words HDd.out
    (first | (go_region_law (first
      | (go_simp; go_at_call 28; refine (HCp.out _ ?_).mono ?_; (first | exact HBd.out | exact HBa.out _); rintro e w6 ⟨v6, rfl, hr6, hb6⟩; have hd6 : DW w6 w.heap.size c := (by first | exact DW.below HDd.out hb6 | exact DW.below (HDa.out _) hb6); have HD6 := hid hd6; obtain ⟨z0, z1, z2, z3, z4, z5, z6, z7⟩ := DW.words hd6; have HB6 : Hid (Below w.heap.size w w6 ∧ w5.heap.size ≤ w6.heap.size) := (by first | exact ⟨HBd.out.trans (hb6.mono HBd.out.size), hb6.size⟩ | exact ⟨(HBa.out _).trans (hb6.mono (HBa.out _).size), Nat.le_trans (by simp) hb6.size⟩); have HR6 : Hid (CRow w6 w5.heap.size v6 l) := (by first | exact hr6 | exact hr6.le (by simp)); clear hd6)
      | (refine step_append_cell rfl (.tmp 17) (.tmp 19) rfl _ w5.heap.size v6 l rfl ?_ _ 1 rfl c ?_ HLen.out ?_ ?_; (first | exact HR6.out | exact World.ownsRow.alloc HR6.out _); (first | exact ct_dw (Blk.new w6 28 c.e.toArray) | exact ct_dw (DW.below HDn.out hb6)); (have := HB6.out.2; simp; omega); intro v7 w7 hr7 hb7; have HD7 : Hid (DW w7 w.heap.size c) := (by first | exact DW.keep HD6.out hb7 HG5.out | exact DW.keep (DW.below HD6.out (below_new _ _)) hb7 HG5.out); have HB7 : Hid (Below w.heap.size w w7) := (by first | exact HB6.out.1.trans (hb7.mono (Nat.le_of_lt HG5.out)) | exact (HB6.out.1.trans ((below_new _ _).mono HB6.out.1.size)).trans (hb7.mono (Nat.le_of_lt HG5.out))); have HC7 := hid hr7.cla; obtain ⟨t0, t1, t2, t3, t4, t5, t6, t7⟩ := DW.words HD7.out)
      | (go_simp; go_at_call 33; refine (HLg.out _ _ ?_).mono ?_; exact HC7.out; rintro e w8 ⟨rfl, hb8⟩; have HD8 := hid (DW.below HD7.out hb8); have HB8 := hid (HB7.out.trans (hb8.mono HB7.out.size)); obtain ⟨r0, r1, r2, r3, r4, r5, r6, r7⟩ := DW.words HD8.out))) | fail)
    all_goals (go_wp2; go_ret; exact ⟨rfl, HB8.out⟩)
  | false =>
    rw [hg] at HLg
    by_cases hrow : 100 < row.size
    · have hrz : (100 : Int) < (row.size : Int) := by omega
      clear h hv hL hg hlen
      go_enter Tryd.func7, Tryd.ntmps7
      go_upto_region 3 with (go_at_call 32; refine (HA.out _ (below_new _ _)).mono ?_; rintro e w5 ⟨rfl, hb5⟩)
      have HB5 : Hid (Below w.heap.size w w5) := (below_new w _).trans (hb5.mono (by simp))
      have HD5 : Hid (DW w5 w.heap.size c) := DW.below (Blk.new w _ _) hb5
      have HG5 : Hid (w.heap.size < w5.heap.size) := by have := hb5.size; simp at this; exact this
      clear hb5
      obtain ⟨x0, x1, x2, x3, x4, x5, x6, x7⟩ := DW.words HD5.out
      have HBd : Hid (Below w.heap.size w w5.drew) := HB5.out.drew
      have HDd : Hid (DW w5.drew w.heap.size c) := DW.below HD5.out (Below.refl _ _).drew
      have HBa : Hid (∀ t, Below w.heap.size w (w5.drew.alloc (.cells #[.string c.r, .string c.f, .string c.q, .int .i64 c.t, .int .i64 c.k, .int .i64 c.vk, .int .i64 c.vn, .string c.s] t))) := fun t => HBd.out.trans ((below_new _ _).mono (by show w.heap.size ≤ w5.heap.size; exact Nat.le_of_lt HG5.out))
      have HDa : Hid (∀ t, DW (w5.drew.alloc (.cells #[.string c.r, .string c.f, .string c.q, .int .i64 c.t, .int .i64 c.k, .int .i64 c.vk, .int .i64 c.vn, .string c.s] t)) w.heap.size c) := fun t => DW.below HDd.out (below_new _ _)
      have HDn : Hid (DW (w5.drew.alloc (.cells #[.string c.r, .string c.f, .string c.q, .int .i64 c.t, .int .i64 c.k, .int .i64 c.vk, .int .i64 c.vn, .string c.s] 28)) w5.drew.heap.size c) := Blk.new w5.drew 28 c.e.toArray
      obtain ⟨y0, y1, y2, y3, y4, y5, y6, y7⟩ := DW.words HDd.out
      (first | (go_region_law (first
        | (go_simp; go_at_call 28; refine (HCp.out _ ?_).mono ?_; (first | exact HBd.out | exact HBa.out _); rintro e w6 ⟨v6, rfl, hr6, hb6⟩; have hd6 : DW w6 w.heap.size c := (by first | exact DW.below HDd.out hb6 | exact DW.below (HDa.out _) hb6); have HD6 := hid hd6; obtain ⟨z0, z1, z2, z3, z4, z5, z6, z7⟩ := DW.words hd6; have HB6 : Hid (Below w.heap.size w w6 ∧ w5.heap.size ≤ w6.heap.size) := (by first | exact ⟨HBd.out.trans (hb6.mono HBd.out.size), hb6.size⟩ | exact ⟨(HBa.out _).trans (hb6.mono (HBa.out _).size), Nat.le_trans (by simp) hb6.size⟩); have HR6 : Hid (CRow w6 w5.heap.size v6 l) := (by first | exact hr6 | exact hr6.le (by simp)); clear hd6)
        | (refine step_append_cell rfl (.tmp 17) (.tmp 19) rfl _ w5.heap.size v6 l rfl ?_ _ 1 rfl c ?_ HLen.out ?_ ?_; (first | exact HR6.out | exact World.ownsRow.alloc HR6.out _); (first | exact ct_dw (Blk.new w6 28 c.e.toArray) | exact ct_dw (DW.below HDn.out hb6)); (have := HB6.out.2; simp; omega); intro v7 w7 hr7 hb7; have HD7 : Hid (DW w7 w.heap.size c) := (by first | exact DW.keep HD6.out hb7 HG5.out | exact DW.keep (DW.below HD6.out (below_new _ _)) hb7 HG5.out); have HB7 : Hid (Below w.heap.size w w7) := (by first | exact HB6.out.1.trans (hb7.mono (Nat.le_of_lt HG5.out)) | exact (HB6.out.1.trans ((below_new _ _).mono HB6.out.1.size)).trans (hb7.mono (Nat.le_of_lt HG5.out))); have HC7 := hid hr7.cla; obtain ⟨t0, t1, t2, t3, t4, t5, t6, t7⟩ := DW.words HD7.out)
        | (go_simp; go_at_call 33; refine (HLg.out _ _ ?_).mono ?_; exact HC7.out; rintro e w8 ⟨rfl, hb8⟩; have HD8 := hid (DW.below HD7.out hb8); have HB8 := hid (HB7.out.trans (hb8.mono HB7.out.size)); obtain ⟨r0, r1, r2, r3, r4, r5, r6, r7⟩ := DW.words HD8.out))) | fail)
      all_goals (go_wp2; go_ret; exact ⟨rfl, HB8.out⟩)
    · have hrz : ¬ (100 : Int) < (row.size : Int) := by omega
      obtain ⟨hl2, hok⟩ := longM_ok hg (fun x hx => by rcases List.mem_append.1 hx with q | q; exact hv x q; exact (List.mem_singleton.1 q) ▸ hvc)
      have HSc : Hid (Sm c) := hok c (by simp)
      have HSl : Hid (∀ x ∈ l, Sm x) := fun x hx => hok x (List.mem_append_left _ hx)
      have HCv := hid h
      have HLa := hid hL
      obtain ⟨A, cc, rfl, hc1, hc2, hh⟩ := h
      obtain ⟨n, hn⟩ : ∃ n, l.length = n := ⟨_, rfl⟩
      have HN := hid hn
      have hn200 : n ≤ 200 := by rw [List.length_append, List.length_singleton] at hl2; omega
      rw [hn] at hc1
      have HH := hid hh
      have hvs : (Value.slice A l.length cc) = .slice A n cc := by rw [hn]
      rw [hvs] at HCp HCv ⊢
      clear hh hv hL hg hlen hok hl2 hn hvs hrow
      go_enter Tryd.func7, Tryd.ntmps7
      go_upto_region 3 with (go_at_call 32; refine (HA.out _ (below_new _ _)).mono ?_; rintro e w5 ⟨rfl, hb5⟩)
      rename_i K3 a3 K0 a0
      suffices HEND : Hid (∀ (w8 : World) (t16 t17 t18 t19 t20 t21 t22 t23 t24 : Value), Below w.heap.size w w8 → DW w8 w.heap.size c → w.heap.size < w8.heap.size → K3 { tmps := List.toArray (.slice A n cc :: c.v :: .string row :: undef :: .pointer (some ⟨w.heap.size, 0, none⟩) :: undef :: .bool false :: undef :: undef :: undef :: undef :: undef :: undef :: undef :: .bool true :: .bool false :: t16 :: t17 :: t18 :: t19 :: t20 :: t21 :: t22 :: t23 :: t24 :: .bool (decide ((100 : Int) < (row.size : Int))) :: .bool (decide ((100 : Int) < (row.size : Int))) :: undef :: undef :: undef :: undef :: undef :: undef :: undef :: undef :: undef :: undef :: undef :: undef :: undef :: undef :: undef :: undef :: undef :: undef :: undef :: undef :: undef :: undef :: undef :: undef :: undef :: undef :: undef :: undef :: undef :: undef :: undef :: undef :: undef :: undef :: undef :: undef :: undef :: undef :: undef :: undef :: undef :: undef :: undef :: undef :: undef :: undef :: undef :: undef :: undef :: undef :: undef :: undef :: undef :: undef :: undef :: undef :: undef :: undef :: undef :: undef :: undef :: undef :: undef :: undef :: undef :: undef :: undef :: undef :: undef :: undef :: undef :: undef :: undef :: undef :: undef :: undef :: undef :: []), defers := [] } w8) by
        clear HSc HSl HLa HH HN HCv a3
        have HB5 : Hid (Below w.heap.size w w5) := (below_new w _).trans (hb5.mono (by simp))
        have HD5 : Hid (DW w5 w.heap.size c) := DW.below (Blk.new w _ _) hb5
        have HG5 : Hid (w.heap.size < w5.heap.size) := by have := hb5.size; simp at this; exact this
        clear hb5
        obtain ⟨x0, x1, x2, x3, x4, x5, x6, x7⟩ := DW.words HD5.out
        have HBd : Hid (Below w.heap.size w w5.drew) := HB5.out.drew
        have HDd : Hid (DW w5.drew w.heap.size c) := DW.below HD5.out (Below.refl _ _).drew
        have HBa : Hid (∀ t, Below w.heap.size w (w5.drew.alloc (.cells #[.string c.r, .string c.f, .string c.q, .int .i64 c.t, .int .i64 c.k, .int .i64 c.vk, .int .i64 c.vn, .string c.s] t))) := fun t => HBd.out.trans ((below_new _ _).mono (by show w.heap.size ≤ w5.heap.size; exact Nat.le_of_lt HG5.out))
        have HDa : Hid (∀ t, DW (w5.drew.alloc (.cells #[.string c.r, .string c.f, .string c.q, .int .i64 c.t, .int .i64 c.k, .int .i64 c.vk, .int .i64 c.vn, .string c.s] t)) w.heap.size c) := fun t => DW.below HDd.out (below_new _ _)
        have HDn : Hid (DW (w5.drew.alloc (.cells #[.string c.r, .string c.f, .string c.q, .int .i64 c.t, .int .i64 c.k, .int .i64 c.vk, .int .i64 c.vn, .string c.s] 28)) w5.drew.heap.size c) := Blk.new w5.drew 28 c.e.toArray
        obtain ⟨y0, y1, y2, y3, y4, y5, y6, y7⟩ := DW.words HDd.out
        (first | (go_region_law (first
          | (go_simp; go_at_call 28; refine (HCp.out _ ?_).mono ?_; (first | exact HBd.out | exact HBa.out _); rintro e w6 ⟨v6, rfl, hr6, hb6⟩; have hd6 : DW w6 w.heap.size c := (by first | exact DW.below HDd.out hb6 | exact DW.below (HDa.out _) hb6); have HD6 := hid hd6; obtain ⟨z0, z1, z2, z3, z4, z5, z6, z7⟩ := DW.words hd6; have HB6 : Hid (Below w.heap.size w w6 ∧ w5.heap.size ≤ w6.heap.size) := (by first | exact ⟨HBd.out.trans (hb6.mono HBd.out.size), hb6.size⟩ | exact ⟨(HBa.out _).trans (hb6.mono (HBa.out _).size), Nat.le_trans (by simp) hb6.size⟩); have HR6 : Hid (CRow w6 w5.heap.size v6 l) := (by first | exact hr6 | exact hr6.le (by simp)); clear hd6)
          | (refine step_append_cell rfl (.tmp 17) (.tmp 19) rfl _ w5.heap.size v6 l rfl ?_ _ 1 rfl c ?_ HLen.out ?_ ?_; (first | exact HR6.out | exact World.ownsRow.alloc HR6.out _); (first | exact ct_dw (Blk.new w6 28 c.e.toArray) | exact ct_dw (DW.below HDn.out hb6)); (have := HB6.out.2; simp; omega); intro v7 w7 hr7 hb7; have HD7 : Hid (DW w7 w.heap.size c) := (by first | exact DW.keep HD6.out hb7 HG5.out | exact DW.keep (DW.below HD6.out (below_new _ _)) hb7 HG5.out); have HB7 : Hid (Below w.heap.size w w7) := (by first | exact HB6.out.1.trans (hb7.mono (Nat.le_of_lt HG5.out)) | exact (HB6.out.1.trans ((below_new _ _).mono HB6.out.1.size)).trans (hb7.mono (Nat.le_of_lt HG5.out))); have HC7 := hid hr7.cla; obtain ⟨t0, t1, t2, t3, t4, t5, t6, t7⟩ := DW.words HD7.out)
          | (go_simp; go_at_call 33; refine (HLg.out _ _ ?_).mono ?_; exact HC7.out; rintro e w8 ⟨rfl, hb8⟩; have HD8 := hid (DW.below HD7.out hb8); have HB8 := hid (HB7.out.trans (hb8.mono HB7.out.size)); obtain ⟨r0, r1, r2, r3, r4, r5, r6, r7⟩ := DW.words HD8.out))) | fail)
        all_goals (
          have HG8 : Hid (w.heap.size < w8.heap.size) := by have h1 := HD8.out; have h1 : Blk w8 w.heap.size 28 c.e.toArray := h1; exact h1.lt
          go_wp2
          exact HEND.out _ _ _ _ _ _ _ _ _ _ HB8.out HD8.out HG8.out)
      intro w8 t16 t17 t18 t19 t20 t21 t22 t23 t24 hB8 hD8 hG8
      have HB8 := hid hB8
      have HD8 := hid hD8
      have HG8 := hid hG8
      clear hB8 hD8 hG8 hb5 HA HLg HCp HLen a0
      refine a3 _ _ ?_
      clear a3
      go_wp2_with (go_at_call 34; refine (new_any _).mono ?_; rintro e w1 ⟨mb, rfl, hM1, hb1⟩; have HS0 := hid (me2_new hM1 hb1 rfl rfl); clear hM1 hb1)
      go_loopw [9] (fun vi wr => ∃ (i : Nat) (rv : Value) (d : List CT), i ≤ n ∧ vi = .int .i64 i ∧ d.length ≤ i ∧ Me2 w8.heap.size mb w1.heap.size rv d d w8 wr) (fun vi _ => n - (intOf vi).toNat)
      case atStart => exact ⟨0, _, [], Nat.zero_le _, rfl, Nat.le_refl _, HS0.out⟩
      case round =>
        clear HS0
        obtain ⟨i, rv, d, hi, rfl, hd, HS⟩ := hrel
        by_cases hlt : i < n
        · have hin : i < l.length := by rw [HN.out]; exact hlt
          obtain ⟨b, off, e, hhc⟩ := HH.out (by rw [HN.out]; omega)
          subst e
          have hbw : b < w.heap.size := hhc.lt (by rw [HN.out]; omega)
          have hltz : (i : Int) < (n : Int) := by omega
          obtain ⟨x, hx⟩ : ∃ x, l[i]? = some x := ⟨_, List.getElem?_eq_getElem hin⟩
          have HSx := hid (HSl.out x (List.mem_of_getElem? hx))
          have HWx : Hid (∀ W, Below w8.heap.size w8 W → W.cell? ⟨b, off + i * 8, none⟩ = some (.string x.r) ∧ W.cell? ⟨b, off + i * 8 + 1, none⟩ = some (.string x.f) ∧ W.cell? ⟨b, off + i * 8 + 2, none⟩ = some (.string x.q) ∧ W.cell? ⟨b, off + i * 8 + 3, none⟩ = some (.int .i64 x.t) ∧ W.cell? ⟨b, off + i * 8 + 4, none⟩ = some (.int .i64 x.k) ∧ W.cell? ⟨b, off + i * 8 + 5, none⟩ = some (.int .i64 x.vk) ∧ W.cell? ⟨b, off + i * 8 + 6, none⟩ = some (.int .i64 x.vn) ∧ W.cell? ⟨b, off + i * 8 + 7, none⟩ = some (.string x.s)) := fun W hb => ct_words (hhc.below (HB8.out.trans (hb.mono HB8.out.size)) hbw) i hx
          have HP1 : Hid (Calls Tryd.prog 35 #[.pointer (some ⟨mb, 0, none⟩), x.v] wr.drew fun e w' => e = .returned (.bool x.ok) ∧ Me2 w8.heap.size mb w1.heap.size rv (putR d x) d w8 w') := me2_put HS.drew (HLa.out.below HB8.out) (Nat.le_refl _) HSx.out (by omega)
          have HP2 : Hid (∀ W, Me2 w8.heap.size mb w1.heap.size rv (putR d x) d w8 W → Calls Tryd.prog 36 #[.pointer (some ⟨w1.heap.size, 0, none⟩), x.v] W fun e w' => e = .returned (.bool x.ok) ∧ ∃ v', Me2 w8.heap.size mb w1.heap.size v' (putR d x) (putR d x) w8 w') := fun W h => me2_ref h HSx.out (by omega)
          obtain ⟨n9, hn9⟩ : ∃ n9, (putR d x).length = n9 := ⟨_, rfl⟩
          have H9 := hid hn9
          have hn9i : n9 ≤ i + 1 := by have := putR_len d x; omega
          have HCn : Hid (∀ rv2 W, Me2 w8.heap.size mb w1.heap.size rv2 (putR d x) (putR d x) w8 W → Calls Tryd.prog 37 #[.pointer (some ⟨mb, 0, none⟩)] W fun e w' => e = .returned (.int .i64 (n9 : Int)) ∧ w' = W) := fun rv2 W h => hn9 ▸ count_any mb _ _ W h.out.1
          obtain ⟨bo, hbo⟩ : ∃ bo, x.ok = bo := ⟨_, rfl⟩
          rw [hbo] at HP1 HP2
          obtain ⟨x0, x1, x2, x3, x4, x5, x6, x7⟩ := HWx.out wr HS.out.2.2.1.b
          obtain ⟨y0, y1, y2, y3, y4, y5, y6, y7⟩ := HWx.out wr.drew HS.drew.out.2.2.1.b
          clear hhc hin hx hn9 hbo HS HSx
          go_upto_region 10 with (fail)
          go_region_with (first
            | (go_at_call 35; refine HP1.out.mono ?_; rintro e w9 ⟨rfl, HS9⟩; have HT9 := hid HS9; clear HS9; obtain ⟨z0, z1, z2, z3, z4, z5, z6, z7⟩ := HWx.out w9 HT9.out.out.2.2.1.b)
            | (go_at_call 36; refine (HP2.out _ HT9.out).mono ?_; rintro e wA ⟨rfl, rv2, HSA⟩; have HTA := hid HSA; clear HSA; obtain ⟨A9, c9, e9, hc9, hm9⟩ := HTA.out.out.2.1.row.len; rw [H9.out] at e9 hc9; subst e9; have r0 : wA.cell? ⟨w1.heap.size, 0, none⟩ = some (.slice A9 n9 c9) := HTA.out.out.2.1.blk.cell 0)
            | (go_at_call 37; refine (HCn.out _ _ HTA.out).mono ?_; rintro e wB ⟨rfl, eB⟩; subst eB))
          all_goals (
            clear x0 x1 x2 x3 x4 x5 x6 x7 y0 y1 y2 y3 y4 y5 y6 y7 z0 z1 z2 z3 z4 z5 z6 z7 HP1 HP2 HCn HWx
            go_wp2
            go_roundw
            case rel => exact ⟨i + 1, _, putR d x, by omega, by go_num, by rw [H9.out]; exact hn9i, HTA.out⟩
            case measure => simp [intOf]; omega)
        · obtain rfl : i = n := by omega
          have hd2 : d.length ≤ 200 := by omega
          have HDo : Hid (∀ x ∈ d, x.ok = true) := fun x hx => (HS.out.1.okl x hx).1
          have HG1 : Hid (∀ W, Me2 w8.heap.size mb w1.heap.size rv d d w8 W → Calls Tryd.prog 38 #[.pointer (some ⟨mb, 0, none⟩), c.v] W fun e w' => e = .returned (.tuple #[((getL d c).getD default).v, .bool (getL d c).isSome]) ∧ Below W.heap.size W w') := fun W h => get_any mb d c _ W h.out.1
          have HG2 : Hid (∀ W, Me2 w8.heap.size mb w1.heap.size rv d d w8 W → Calls Tryd.prog 39 #[.pointer (some ⟨w1.heap.size, 0, none⟩), c.v] W fun e w' => e = .returned (.tuple #[((getL d c).getD default).v, .bool (getL d c).isSome]) ∧ Below W.heap.size W w') := fun W h => refget_any _ _ rv d c W h.out.2.1 HSc.out (by omega)
          obtain ⟨g, hg⟩ : ∃ g, (getL d c).getD default = g := ⟨_, rfl⟩
          obtain ⟨gb, hgb⟩ : ∃ gb, (getL d c).isSome = gb := ⟨_, rfl⟩
          rw [hg, hgb] at HG1 HG2
          clear hg hgb hd
          have HWc : Hid (∀ W, Me2 w8.heap.size mb w1.heap.size rv d d w8 W → W.cell? ⟨w.heap.size, 0, none⟩ = some (.string c.r) ∧ W.cell? ⟨w.heap.size, 1, none⟩ = some (.string c.f) ∧ W.cell? ⟨w.heap.size, 2, none⟩ = some (.string c.q) ∧ W.cell? ⟨w.heap.size, 3, none⟩ = some (.int .i64 c.t) ∧ W.cell? ⟨w.heap.size, 4, none⟩ = some (.int .i64 c.k) ∧ W.cell? ⟨w.heap.size, 5, none⟩ = some (.int .i64 c.vk) ∧ W.cell? ⟨w.heap.size, 6, none⟩ = some (.int .i64 c.vn) ∧ W.cell? ⟨w.heap.size, 7, none⟩ = some (.string c.s)) := fun W h => DW.words (DW.keep HD8.out h.out.2.2.1.b HG8.out)
          have HS1 := hid HS
          obtain ⟨x0, x1, x2, x3, x4, x5, x6, x7⟩ := HWc.out wr HS
          clear HS
          go_upto_region 14 with (first
            | (go_at_call 38; refine (HG1.out _ HS1.out).mono ?_; rintro e wa ⟨rfl, hba⟩; have HS2 := hid (Me2.below HS1.out hba); clear hba; have HS3 := hid (Me2.below HS2.out (below_new wa (.cells #[.string g.r, .string g.f, .string g.q, .int .i64 g.t, .int .i64 g.k, .int .i64 g.vk, .int .i64 g.vn, .string g.s] 28))); obtain ⟨y0, y1, y2, y3, y4, y5, y6, y7⟩ := HWc.out _ HS3.out)
            | (go_at_call 39; refine (HG2.out _ HS3.out).mono ?_; rintro e wb ⟨rfl, hbb⟩; have HS4 := hid (Me2.below HS3.out hbb); have HK4 : Hid (Blk wb wa.heap.size 28 g.e.toArray) := (Blk.new wa _ _).keep hbb (by simp); clear hbb))
          refine wp_ltc (fun W => Hid (Me2 w8.heap.size mb w1.heap.size rv d d w8 W) ∧ Hid (Blk W wa.heap.size 28 g.e.toArray ∧ Blk W wb.heap.size 28 g.e.toArray)) ⟨Me2.below HS4.out (below_new _ _), HK4.out.keep (below_new _ _) HK4.out.lt, Blk.new wb _ _⟩ (fun WE HWE => ?_)
          obtain ⟨HM, HBk⟩ := HWE
          have HMx : Hid (∀ W, Below WE.heap.size WE W → Me2 w8.heap.size mb w1.heap.size rv d d w8 W) := fun W hb => Me2.below HM.out hb
          clear x0 x1 x2 x3 x4 x5 x6 x7 y0 y1 y2 y3 y4 y5 y6 y7 HS1 HS2 HS3 HS4 HK4 HG1 HG2 HWc
          obtain ⟨m, hm⟩ : ∃ m, d.length = m := ⟨_, rfl⟩
          obtain ⟨A9, c9, e9, hc9, hm9⟩ := HM.out.out.2.1.row.len
          rw [hm] at e9 hc9
          subst e9
          have HAl : Hid (∀ W, Below WE.heap.size WE W → Calls Tryd.prog 40 #[.pointer (some ⟨mb, 0, none⟩)] W fun e w' => ∃ v, e = .returned v ∧ CRow w' W.heap.size v d ∧ Below W.heap.size W w') := fun W hb => allC_any mb _ d (by omega) W (HMx.out W hb).out.1
          have HR1 : Hid (∀ W, Below WE.heap.size WE W → Calls Tryd.prog 41 #[.pointer (some ⟨mb, 0, none⟩), .string row] W fun e w' => ∃ v, e = .returned v ∧ CRow w' W.heap.size v (rowL d row) ∧ Below W.heap.size W w') := fun W hb => row_any mb _ d row (by omega) W (HMx.out W hb).out.1
          have HR2 : Hid (∀ W, Below WE.heap.size WE W → Calls Tryd.prog 42 #[.pointer (some ⟨w1.heap.size, 0, none⟩), .string row] W fun e w' => ∃ v, e = .returned v ∧ CRow w' W.heap.size v (rowL d row) ∧ Below W.heap.size W w') := fun W hb => refrow_any _ _ _ d row W (HMx.out W hb).out.2.1 (by omega)
          obtain ⟨bx, hbx⟩ : ∃ bx, bytesL d = bx := ⟨_, rfl⟩
          have HY1 : Hid (∀ W, Below WE.heap.size WE W → Calls Tryd.prog 43 #[.pointer (some ⟨mb, 0, none⟩)] W fun e w' => e = .returned (.int .i64 (bx : Int)) ∧ w' = W) := fun W hb => hbx ▸ bytes_any mb _ _ W (HMx.out W hb).out.1
          have HY2 : Hid (∀ W, Below WE.heap.size WE W → Calls Tryd.prog 44 #[.pointer (some ⟨w1.heap.size, 0, none⟩)] W fun e w' => e = .returned (.int .i64 (bx : Int)) ∧ Below W.heap.size W w') := fun W hb => hbx ▸ refbytes_any _ _ _ d W (HMx.out W hb).out.2.1 HDo.out (by omega)
          have HT : Hid (FinW WE wa.heap.size wb.heap.size w1.heap.size g (.slice A9 m c9) WE) := ⟨hid ⟨Below.refl _ _, HBk.out.1.lt, HBk.out.2.lt, HM.out.out.2.1.blk.lt⟩, DW.words HBk.out.1, DW.words HBk.out.2, HM.out.out.2.1.blk.cell 0⟩
          have HBE : Hid (Below w.heap.size w WE) := HB8.out.trans (HM.out.out.2.2.1.b.mono HB8.out.size)
          obtain ⟨-, ⟨x0, x1, x2, x3, x4, x5, x6, x7⟩, ⟨y0, y1, y2, y3, y4, y5, y6, y7⟩, r0⟩ := HT.out
          clear HM HBk hm hbx HDo
          go_region_held3 (fun W' => Hid (Below WE.heap.size WE W' ∧ wa.heap.size < WE.heap.size ∧ wb.heap.size < WE.heap.size ∧ w1.heap.size < WE.heap.size) ∧ (W'.cell? ⟨wa.heap.size, 0, none⟩ = some (.string g.r) ∧ W'.cell? ⟨wa.heap.size, 1, none⟩ = some (.string g.f) ∧ W'.cell? ⟨wa.heap.size, 2, none⟩ = some (.string g.q) ∧ W'.cell? ⟨wa.heap.size, 3, none⟩ = some (.int .i64 g.t) ∧ W'.cell? ⟨wa.heap.size, 4, none⟩ = some (.int .i64 g.k) ∧ W'.cell? ⟨wa.heap.size, 5, none⟩ = some (.int .i64 g.vk) ∧ W'.cell? ⟨wa.heap.size, 6, none⟩ = some (.int .i64 g.vn) ∧ W'.cell? ⟨wa.heap.size, 7, none⟩ = some (.string g.s)) ∧ (W'.cell? ⟨wb.heap.size, 0, none⟩ = some (.string g.r) ∧ W'.cell? ⟨wb.heap.size, 1, none⟩ = some (.string g.f) ∧ W'.cell? ⟨wb.heap.size, 2, none⟩ = some (.string g.q) ∧ W'.cell? ⟨wb.heap.size, 3, none⟩ = some (.int .i64 g.t) ∧ W'.cell? ⟨wb.heap.size, 4, none⟩ = some (.int .i64 g.k) ∧ W'.cell? ⟨wb.heap.size, 5, none⟩ = some (.int .i64 g.vk) ∧ W'.cell? ⟨wb.heap.size, 6, none⟩ = some (.int .i64 g.vn) ∧ W'.cell? ⟨wb.heap.size, 7, none⟩ = some (.string g.s)) ∧ W'.cell? ⟨w1.heap.size, 0, none⟩ = some (.slice A9 m c9))
            (first | exact HT.out | exact fin_drew HT.out | exact fin_call (by assumption) hb3 | exact fin_drew (by assumption) | assumption)
            (first
              | (go_at_call 40; refine (HAl.out _ (fin_below (by assumption))).mono ?_; rintro e wx ⟨vx, rfl, hrx, hb3⟩; have hKx := hid hrx.cla; clear hrx)
              | (go_at_call 29; have hq := samecells_any _ _ _ _ wv (hKu.out.below hbv.out) hKv.out; rw [show decide (rowL d row = rowL d row) = true from decide_eq_true rfl] at hq; refine hq.mono ?_; clear hq; rintro e w3 ⟨rfl, hb3⟩)
              | (go_at_call 29; have hq := samecells_any _ _ _ _ wx hKx.out ((HMx.out wx (fin_below (by assumption))).out.2.1.row.cla); rw [show decide (d = d) = true from decide_eq_true rfl] at hq; refine hq.mono ?_; clear hq; rintro e w3 ⟨rfl, hb3⟩)
              | (go_at_call 41; refine (HR1.out _ (fin_below (by assumption))).mono ?_; rintro e wu ⟨vu, rfl, hru, hb3⟩; have hKu := hid hru.cla; clear hru)
              | (go_at_call 42; refine (HR2.out _ (fin_below (by assumption))).mono ?_; rintro e wv ⟨vv, rfl, hrv, hb3⟩; have hKv := hid hrv.cla; have hbv := hid hb3; clear hrv)
              | (go_at_call 43; refine (HY1.out _ (fin_below (by assumption))).mono ?_; rintro e w3 ⟨rfl, e3⟩; subst e3)
              | (go_at_call 44; refine (HY2.out _ (fin_below (by assumption))).mono ?_; rintro e w3 ⟨rfl, hb3⟩))
          rename_i hLast
          have HZ := hid (fin_below hLast)
          clear hLast HT x0 x1 x2 x3 x4 x5 x6 x7 y0 y1 y2 y3 y4 y5 y6 y7 r0
          go_wp2
          go_ret
          exact ⟨rfl, HBE.out.trans (HZ.out.mono HBE.out.size)⟩
end Go.Proofs.YtdjaofbjmnmlbaaDoor

/- MemPuts: every row of Puts leaves the cells that the document tells, and every question is answered as it says. The row and its tied card. Conditions: none but the card's own (the listed variables of the library are laid by the program's text). -/
namespace Go.Proofs.YtdjaofbjmnmlbaaDoor.memPuts
open Go.ChangeShapes Go.WideShapes Go.ChangeAt Go.RowKit

set_option maxRecDepth 100000 in
/-- What the walk gives, for every argument and every world that holds the listed variables. -/
theorem contract (H : Type) (enc : TypeId × Value → H) (W : World) (base : Nat) (args : Array Value) (ds gs : List (DataW H)) (before : List MemPlace)
    (hval : ∀ (j : Nat) t v, Tryd.f7.params[j]? = some t → args[j]? = some v → Value.okWide Tryd.prog W .any base t v)
    (hW : DataW.Whole enc Tryd.prog Tryd.f7.params.toList Rows.memPutsSpec.vars false W args.toList ds gs before) (hL : laidMetH Tryd.prog Rows.memPutsRow.laid W) (hz : (DataW.weightsEach Tryd.prog (Tryd.f7.params.toList ++ (OpenSpec.ofChange Rows.memPutsSpec).bare.plain.varTypes Tryd.prog) (ds ++ gs)).all (· ≤ reachBytes) = true) :
    Calls Tryd.prog 7 args W fun e W' => ∃ v, e = .returned v ∧ Rows.memPutsSpec.post enc Tryd.prog Tryd.f7 false true false false W args v W' := by
  have hW' := hW
  obtain ⟨p, q, hA0, hV, rfl, hfz, hnd⟩ := hW
  have hA : DataW.TrodAll enc Tryd.prog W 0 (fun _ => true) true Tryd.f7.params.toList args.toList ds p := hA0
  rw [Tryd.params7] at hA hval hz
  obtain ⟨v0, vs0, d0, ds0, p0, q_0, hargs, rfl, rfl, h0, r_0⟩ := trodAll_cons hA
  obtain ⟨v1, vs1, d1, ds1, p1, q_1, rfl, rfl, rfl, h1, r_1⟩ := trodAll_cons r_0
  obtain ⟨v2, vs2, d2, ds2, p2, q_2, rfl, rfl, rfl, h2, r_2⟩ := trodAll_cons r_1
  obtain ⟨rfl, rfl, rfl⟩ := trodAll_nil r_2
  obtain rfl : args = #[v0, v1, v2] := by cases args; simp_all
  obtain ⟨rfl, rfl⟩ := trodVars_none hV
  obtain ⟨l0, hs0, hv0, hb0⟩ := open_cla2 (hval 0 39 v0 rfl rfl) h0 (fun n hn => of_decide_eq_true (List.all_eq_true.1 hz n (DataW.weights_mem_each (j := 0) (t := 39) (d := d0) rfl rfl n hn)))
  obtain ⟨r1, f1, q1, t1, k1, vk1, vn1, s1, rfl, rfl, rfl, wr1, wf1, wq1, wt1, wk1, wvk1, wn1, ws1⟩ := open_cell (hval 1 28 v1 rfl rfl) h1
  have hr1 : r1.size ≤ 9223372036854775807 := size_of wr1
  have hf1 : f1.size ≤ 9223372036854775807 := size_of wf1
  have hq1 : q1.size ≤ 9223372036854775807 := size_of wq1
  have hs1 : s1.size ≤ 9223372036854775807 := size_of ws1
  obtain ⟨x2, rfl, rfl, rfl, wx2⟩ := Go.ChangeMaps.open_string Tryd.underlying9 (hval 2 9 v2 rfl rfl) h2
  have hx2 : x2.size ≤ 9223372036854775807 := size_of wx2
  clear hA0
  simp only [List.append_nil] at hW'
  have hL2 : LaidU W := laid_u (seat_met5 hL)
  have hlt0 : ∀ x ∈ p0, x.block < W.heap.size := fun x hx => by simpa using hW'.lt x (by simp [hx])
  refine (memputs_any v0 l0 ⟨r1, f1, q1, t1, k1, vk1, vn1, s1⟩ x2 W hs0 hb0 hv0 (inI_of_wf2 wn1) hL2).mono fun e W' ⟨he, hg⟩ => ?_
  subst he
  exact ⟨_, rfl, _, _, _, [], (p0 ++ ([] ++ ([] ++ []))), [], hW', trodAll_cons_mk (shut_bool Tryd.underlying4 _) trodAll_mk0, (trodAll_cons_mk (Below.trod laid_out (by kernel_rfl) (of_decide_eq_true (by kernel_rfl)) h0 hg hlt0) (trodAll_cons_mk (shut_cell r1 f1 q1 t1 k1 vk1 vn1 s1 wr1 wf1 wq1 wt1 wk1 wvk1 wn1 ws1 0) (trodAll_cons_mk (Go.ChangeMaps.shut_string Tryd.underlying9 wx2) trodAll_mk0))), rfl, hg.frame _, fun h => by cases h⟩

theorem reads (os : Os) (H : Type) (enc : TypeId × Value → H) : ∃ places, DataW.whole enc Tryd.prog ((laidWorld5 os).forCall (fun _ _ => 0) ⟨#[], #[.slice none 0 0, .agg #[.string ByteArray.empty, .string ByteArray.empty, .string ByteArray.empty, .int .i64 0, .int .i64 0, .int .i64 0, .int .i64 0, .string ByteArray.empty], .string ByteArray.empty], []⟩).memory Tryd.f7.params.toList Rows.memPutsSpec.vars false #[Value.slice none 0 0, Value.agg #[.string ByteArray.empty, .string ByteArray.empty, .string ByteArray.empty, .int .i64 0, .int .i64 0, .int .i64 0, .int .i64 0, .string ByteArray.empty], Value.string ByteArray.empty].toList 12 = some ([.nil, .agg [.lit (.string []), .lit (.string []), .lit (.string []), .lit (.int .i64 0), .lit (.int .i64 0), .agg [.lit (.int .i64 0), .lit (.int .i64 0), .lit (.string [])]], .lit (.string [])], [], places) :=
  ⟨[], by kernel_rfl⟩

set_option maxRecDepth 100000 in
theorem lifted (os : Os) (started : os.Started) (H : Type) (enc : TypeId × Value → H) (F : Stop.Interp) :
    ReturnsInHanded {} Tryd.checked os 7 .any ((OpenSpec.ofChange Rows.memPutsSpec).preRow enc Tryd.prog Tryd.f7 Rows.memPutsRow.domain false Rows.memPutsRow.laid) (((OpenSpec.ofChange Rows.memPutsSpec).at F).post enc Tryd.prog Tryd.f7 false true false false) := by
  obtain ⟨places, hx⟩ := reads os H enc
  refine returnsInHanded_of_row (C := Tryd.checked) (s := OpenSpec.ofChange Rows.memPutsSpec) seat_own started (by kernel_rfl) Tryd.func7
    (witness_row_at (enc := enc) (C := Tryd.checked) false (laidWorld5 os) #[.slice none 0 0, .agg #[.string ByteArray.empty, .string ByteArray.empty, .string ByteArray.empty, .int .i64 0, .int .i64 0, .int .i64 0, .int .i64 0, .string ByteArray.empty], .string ByteArray.empty] rfl (by kernel_rfl) (by kernel_rfl) (by kernel_rfl)
      (OpenSpec.preRow_of_cond 12 hx (by kernel_rfl) (fun k hk => by cases hk) (by kernel_rfl) (laid_met5 os _))) ?_
  intro W base args ds gs before hval hW _ _ hz hL _ _
  exact contract H enc W base args ds gs before hval hW hL hz

theorem said : Rows.MemPutsSaid :=
  OpenClaim.holds_of_cond 7 Tryd.f7 rfl rfl rfl rfl rfl rfl rfl ⟨rfl, rfl, rfl, rfl, rfl⟩ rfl rfl rfl rfl rfl (by kernel_rfl) Tryd.func7 (by kernel_rfl)
    (of_decide_eq_true (by kernel_rfl)) (by unfold Func.isWrapper; first | (rw [if_pos (by decide +kernel)]; kernel_rfl) | (rw [if_neg (by decide +kernel)]; exact ⟨rfl, rfl⟩))
    (fun os started H enc _ F => by rw [OpenClaim.pre_eq_preRow]; exact lifted os started H enc F)

theorem plain (f : FuncId) (fn : Func) (hf : Tryd.pinned.checked.prog.funcNamed "joist/joistlaw07.MemPuts" = some f) (hfn : Tryd.pinned.checked.prog.funcs[f]? = some fn) :
    true = Tryd.pinned.checked.prog.looks [] ∧ ∀ (j : Nat) t, fn.params[j]? = some t → Tryd.pinned.checked.prog.wantsStandIn t = false := by
  obtain rfl : f = 7 := Option.some.inj ((show Tryd.prog.funcNamed "joist/joistlaw07.MemPuts" = some 7 by kernel_rfl).symm.trans hf) |>.symm
  obtain rfl : fn = Tryd.f7 := (Option.some.inj (Tryd.func7.symm.trans hfn)).symm
  refine ⟨by kernel_rfl, fun j t ht => ?_⟩
  rw [Tryd.params7] at ht
  have hm := Array.mem_of_getElem? ht
  rcases (show t = 39 ∨ t = 28 ∨ t = 9 by simpa using hm) with rfl | rfl | rfl
  · exact (show Tryd.prog.wantsStandIn 39 = false by kernel_rfl)
  · exact (show Tryd.prog.wantsStandIn 28 = false by kernel_rfl)
  · exact (show Tryd.prog.wantsStandIn 9 = false by kernel_rfl)

/-- THE CARD. -/
theorem card : Rows.MemPutsCardSaid :=
  Claim7.holds_tied_plain_at .later [] _ _ _ _ said (fun _ h => by cases h) (by kernel_rfl) (fun _ h => by cases h) memPuts_row_tie rfl ⟨rfl, rfl⟩ (by kernel_rfl) rfl plain (by kernel_rfl)
end Go.Proofs.YtdjaofbjmnmlbaaDoor.memPuts
namespace Go.Proofs.YtdjaofbjmnmlbaaDoor
theorem memPuts_card : Rows.MemPutsCardSaid := memPuts.card
end Go.Proofs.YtdjaofbjmnmlbaaDoor
