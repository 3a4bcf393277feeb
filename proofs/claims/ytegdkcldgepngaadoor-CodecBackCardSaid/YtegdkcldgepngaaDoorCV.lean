/- The law CodecRows at every cell and text: true. Conditions: the texts are no longer than any are, the number of the value one of 64 bits; the tables of utf8 read as they are laid. -/
import Derived.Test.YtegdkcldgepngaaDoorCU
namespace Go.Proofs.YtegdkcldgepngaaDoor
open Go.RowKit

/-- A row's first bytes begin its own keys alone. -/
theorem first_key {s r f q : List UInt8} {t k : Int} : (esc s ++ [0, 1]) <+: keyM r f q t k ↔ s = r := by
  constructor
  · rintro ⟨u, hu⟩
    have h1 := rdT_esc s u
    have h2 := rdT_esc r (esc f ++ ([0, 1] ++ (midM q k ++ tailM t k)))
    have e : esc s ++ (0 :: 1 :: u) = esc r ++ (0 :: 1 :: (esc f ++ ([0, 1] ++ (midM q k ++ tailM t k)))) := by
      rw [List.append_assoc] at hu
      exact hu
    rw [e, h2] at h1
    simp only [Option.some.injEq, Prod.mk.injEq] at h1
    exact h1.1.symm
  · rintro rfl
    exact ⟨esc f ++ ([0, 1] ++ (midM q k ++ tailM t k)), by unfold keyM; simp [List.append_assoc]⟩

structure OneB (w W : World) (xs : Array Value) : Prop where
  c : Blk W w.heap.size 25 xs
  bw : Below w.heap.size w W
theorem OneB.below {w W W' : World} {xs : Array Value} (h : OneB w W xs) (hb : Below W.heap.size W W') : OneB w W' xs := ⟨h.c.keep hb h.c.lt, h.bw.trans (hb.mono h.bw.size)⟩

def RoInv (F K : List UInt8) (w7 : World) (vb vi : Value) (wr : World) : Prop :=
  ∃ (i m : Nat) (bg : Bool), i ≤ F.length ∧ vi = .int .i64 i ∧ vb = .bool bg ∧ wr = w7.drewN m ∧ Hid (bg = decide (F.take i = K.take i ∧ F.length ≤ K.length))

theorem take_ext {F K : List UInt8} {i : Nat} (h : F.take i = K.take i) (h1 : i < F.length) (h2 : i < K.length) : F.take (i + 1) = K.take (i + 1) ↔ F.getD i 0 = K.getD i 0 := by
  rw [List.take_succ_eq_append_getElem h1, List.take_succ_eq_append_getElem h2, h, List.getD_eq_getElem?_getD, List.getD_eq_getElem?_getD, List.getElem?_eq_getElem h1, List.getElem?_eq_getElem h2, List.append_cancel_left_eq, Option.getD_some, Option.getD_some]
  exact ⟨fun e => by injection e, fun e => by rw [e]⟩

set_option maxRecDepth 100000 in
set_option maxHeartbeats 8000000 in
theorem crows_main (r f q vs : ByteArray) (t k vk vn : Int) (row : ByteArray) (w : World) (lo b1 : Bool) (F K : List UInt8)
    (hlo : ∀ (W : World), Calls Tryd.prog 10 #[.slice (some ⟨W.heap.size, 0, none⟩) 1 1] (W.alloc (.cells #[.string r, .string f, .string q, .int .i64 t, .int .i64 k, .int .i64 vk, .int .i64 vn, .string vs] 25)) fun e w' => e = .returned (.bool lo) ∧ Below (W.alloc (.cells #[.string r, .string f, .string q, .int .i64 t, .int .i64 k, .int .i64 vk, .int .i64 vn, .string vs] 25)).heap.size (W.alloc (.cells #[.string r, .string f, .string q, .int .i64 t, .int .i64 k, .int .i64 vk, .int .i64 vn, .string vs] 25)) w')
    (ha : ∀ W, Below w.heap.size w W → Calls Tryd.prog 9 #[] W fun e w' => e = .returned (.bool true) ∧ Below W.heap.size W w')
    (hr1 : ∀ W, Below w.heap.size w W → Calls Tryd.prog 15 #[cellV r f q t k vk vn vs] W fun e w' => e = .returned (.bool b1) ∧ Below W.heap.size W w')
    (hk : lo = true ∨ (lo = false ∧ (100 < row.size ∨ (row.size ≤ 100 ∧ (b1 = false ∨ (b1 = true ∧ ((F <+: K ↔ row = r) ∧ F.length ≤ 1000 ∧ K.length ≤ 1000) ∧
      (∀ W, Below w.heap.size w W → Calls Tryd.prog 11 #[cellV r f q t k vk vn vs] W fun e w' => ∃ g c, e = .returned (.tuple #[.slice (some ⟨g, 0, none⟩) K.length c, .bool true]) ∧ K.length ≤ c ∧ c ≤ maxLen ∧ W.heap.size ≤ g ∧ g < w'.heap.size ∧ (∀ i, i < K.length → w'.cell? ⟨g, i, none⟩ = some (.int .u8 ((K.getD i 0).toNat : Int))) ∧ Below W.heap.size W w') ∧
      (∀ W, Calls Tryd.prog 28 #[.string row] W fun e w' => ∃ g c, e = .returned (.slice (some ⟨g, 0, none⟩) F.length c) ∧ F.length ≤ c ∧ c ≤ maxLen ∧ (∀ i, i < F.length → w'.cell? ⟨g, i, none⟩ = some (.int .u8 ((F.getD i 0).toNat : Int))) ∧ Below W.heap.size W w')))))))
    : Calls Tryd.prog 6 #[cellV r f q t k vk vn vs, .string row] w fun e w' => e = .returned (.bool true) ∧ Below w.heap.size w w' := by
  have HA := hid ha
  have HLo := hid hlo
  have HRc := hid hr1
  have HK := hid hk
  clear ha hlo hr1 hk
  go_enter Tryd.func6, Tryd.ntmps6
  go_upto_region 3 with (go_at_call 9; refine (HA.out _ (below_new _ _)).mono ?_; rintro e w1 ⟨rfl, hb1⟩)
  refine wp_ltr (fun W => Hid (OneB w W #[.string r, .string f, .string q, .int .i64 t, .int .i64 k, .int .i64 vk, .int .i64 vn, .string vs]) ∧ W.cell? ⟨w.heap.size, 0, none⟩ = some (.string r) ∧ W.cell? ⟨w.heap.size, 1, none⟩ = some (.string f) ∧ W.cell? ⟨w.heap.size, 2, none⟩ = some (.string q) ∧ W.cell? ⟨w.heap.size, 3, none⟩ = some (.int .i64 t) ∧ W.cell? ⟨w.heap.size, 4, none⟩ = some (.int .i64 k) ∧ W.cell? ⟨w.heap.size, 5, none⟩ = some (.int .i64 vk) ∧ W.cell? ⟨w.heap.size, 6, none⟩ = some (.int .i64 vn) ∧ W.cell? ⟨w.heap.size, 7, none⟩ = some (.string vs)) ?_ (fun W2 hW2 => ?_)
  · have B0 := (Blk.new w 25 #[.string r, .string f, .string q, .int .i64 t, .int .i64 k, .int .i64 vk, .int .i64 vn, .string vs]).keep hb1 (by simp)
    exact ⟨⟨B0, (below_new w _).trans (hb1.mono (by simp))⟩, B0.cell 0, B0.cell 1, B0.cell 2, B0.cell 3, B0.cell 4, B0.cell 5, B0.cell 6, B0.cell 7⟩
  clear hb1
  obtain ⟨HT2, c0, c1, c2, c3, c4, c5, c6, c7⟩ := hW2
  have HT3 : Hid (∀ w3, Below (W2.alloc (.cells #[.string r, .string f, .string q, .int .i64 t, .int .i64 k, .int .i64 vk, .int .i64 vn, .string vs] 25)).heap.size (W2.alloc (.cells #[.string r, .string f, .string q, .int .i64 t, .int .i64 k, .int .i64 vk, .int .i64 vn, .string vs] 25)) w3 → OneB w w3 #[.string r, .string f, .string q, .int .i64 t, .int .i64 k, .int .i64 vk, .int .i64 vn, .string vs]) := fun w3 h => (HT2.out.below (below_new _ _)).below h
  rcases HK.out with rfl | ⟨rfl, h100 | ⟨h100, rfl | ⟨rfl, hk1, hE1, hE2⟩⟩⟩
  · clear HK
    go_wp2_with (first
      | (go_at_call 10; refine (HLo.out _).mono ?_; rintro e w3 ⟨rfl, hb3⟩; have HB3 := hid (HT3.out w3 hb3)))
    go_ret
    exact ⟨rfl, HB3.out.bw⟩
  · clear HK
    have h100' : (100 : Int) < (row.size : Int) := by omega
    go_wp2_with (first
      | (go_at_call 10; refine (HLo.out _).mono ?_; rintro e w3 ⟨rfl, hb3⟩; have HB3 := hid (HT3.out w3 hb3)))
    go_ret
    exact ⟨rfl, HB3.out.bw⟩
  · clear HK
    have h100' : ¬ (100 : Int) < (row.size : Int) := by omega
    go_wp2_with (first
      | (go_at_call 10; refine (HLo.out _).mono ?_; rintro e w3 ⟨rfl, hb3⟩; have HB3 := hid (HT3.out w3 hb3); have e0 : w3.cell? ⟨w.heap.size, 0, none⟩ = some (.string r) := HB3.out.c.cell 0; have e1 : w3.cell? ⟨w.heap.size, 1, none⟩ = some (.string f) := HB3.out.c.cell 1; have e2 : w3.cell? ⟨w.heap.size, 2, none⟩ = some (.string q) := HB3.out.c.cell 2; have e3 : w3.cell? ⟨w.heap.size, 3, none⟩ = some (.int .i64 t) := HB3.out.c.cell 3; have e4 : w3.cell? ⟨w.heap.size, 4, none⟩ = some (.int .i64 k) := HB3.out.c.cell 4; have e5 : w3.cell? ⟨w.heap.size, 5, none⟩ = some (.int .i64 vk) := HB3.out.c.cell 5; have e6 : w3.cell? ⟨w.heap.size, 6, none⟩ = some (.int .i64 vn) := HB3.out.c.cell 6; have e7 : w3.cell? ⟨w.heap.size, 7, none⟩ = some (.string vs) := HB3.out.c.cell 7)
      | (go_at_call 15; ((with_reducible refine (HRc.out w3 HB3.out.bw).mono ?_); rintro e w4 ⟨rfl, hb4⟩; have HB4 := hid (HB3.out.below hb4))))
    go_ret
    exact ⟨rfl, HB4.out.bw⟩
  clear HK
  have h100' : ¬ (100 : Int) < (row.size : Int) := by omega
  have HE1 := hid hE1
  have HE2 := hid hE2
  have HX := hid hk1
  clear hE1 hE2 hk1
  obtain ⟨N1, hN1⟩ : ∃ N, K.length = N := ⟨_, rfl⟩
  obtain ⟨N2, hN2⟩ : ∃ N, F.length = N := ⟨_, rfl⟩
  rw [hN1] at HE1 HX
  rw [hN2] at HE2 HX
  have HN1 := hid hN1
  have HN2 := hid hN2
  clear hN1 hN2
  go_upto_region 5 with (first
    | (go_at_call 10; refine (HLo.out _).mono ?_; rintro e w3 ⟨rfl, hb3⟩; have HB3 := hid (HT3.out w3 hb3); have e0 : w3.cell? ⟨w.heap.size, 0, none⟩ = some (.string r) := HB3.out.c.cell 0; have e1 : w3.cell? ⟨w.heap.size, 1, none⟩ = some (.string f) := HB3.out.c.cell 1; have e2 : w3.cell? ⟨w.heap.size, 2, none⟩ = some (.string q) := HB3.out.c.cell 2; have e3 : w3.cell? ⟨w.heap.size, 3, none⟩ = some (.int .i64 t) := HB3.out.c.cell 3; have e4 : w3.cell? ⟨w.heap.size, 4, none⟩ = some (.int .i64 k) := HB3.out.c.cell 4; have e5 : w3.cell? ⟨w.heap.size, 5, none⟩ = some (.int .i64 vk) := HB3.out.c.cell 5; have e6 : w3.cell? ⟨w.heap.size, 6, none⟩ = some (.int .i64 vn) := HB3.out.c.cell 6; have e7 : w3.cell? ⟨w.heap.size, 7, none⟩ = some (.string vs) := HB3.out.c.cell 7)
    | (go_at_call 15; ((with_reducible refine (HRc.out w3 HB3.out.bw).mono ?_); rintro e w4 ⟨rfl, hb4⟩; have HB4 := hid (HB3.out.below hb4))))
  clear HT2 HT3 HB3 HLo HRc HA hb3 hb4 h100 h100' c0 c1 c2 c3 c4 c5 c6 c7 e0 e1 e2 e3 e4 e5 e6 e7
  have c0 : w4.cell? ⟨w.heap.size, 0, none⟩ = some (.string r) := HB4.out.c.cell 0; have c1 : w4.cell? ⟨w.heap.size, 1, none⟩ = some (.string f) := HB4.out.c.cell 1; have c2 : w4.cell? ⟨w.heap.size, 2, none⟩ = some (.string q) := HB4.out.c.cell 2; have c3 : w4.cell? ⟨w.heap.size, 3, none⟩ = some (.int .i64 t) := HB4.out.c.cell 3; have c4 : w4.cell? ⟨w.heap.size, 4, none⟩ = some (.int .i64 k) := HB4.out.c.cell 4; have c5 : w4.cell? ⟨w.heap.size, 5, none⟩ = some (.int .i64 vk) := HB4.out.c.cell 5; have c6 : w4.cell? ⟨w.heap.size, 6, none⟩ = some (.int .i64 vn) := HB4.out.c.cell 6; have c7 : w4.cell? ⟨w.heap.size, 7, none⟩ = some (.string vs) := HB4.out.c.cell 7
  go_upto_region 6 with (go_at_call 11; ((with_reducible refine (HE1.out _ HB4.out.bw).mono ?_); rintro e w6 ⟨g1, q1, rfl, hq1, hm1, hg1, hg1', hx1, hb6⟩))
  have HB6 := hid (HB4.out.below hb6)
  have HG1 := hid hx1
  clear hx1 c0 c1 c2 c3 c4 c5 c6 c7
  go_upto_region 8 with (go_at_call 28; ((with_reducible refine (HE2.out _).mono ?_); rintro e w7 ⟨g2, q2', rfl, hq2, hm2, hx2, hb7⟩))
  have HG2 := hid hx2
  have HB7 := hid (HB6.out.below hb7)
  have HG1' : Hid (∀ i, i < N1 → w7.cell? ⟨g1, i, none⟩ = some (.int .u8 ((K.getD i 0).toNat : Int))) := fun i hi => (hb7.cell (p := ⟨g1, i, none⟩) hg1').trans (HG1.out i hi)
  have HC1 := hid hq1
  have HC2 := hid hq2
  have HM1 := hid hm1
  have HM2 := hid hm2
  clear hx2 HB4 HB6 HG1 hb6 hb7 hg1 hg1' hq1 hq2 hm1 hm2 HE1 HE2
  go_wp2
  go_loopw [8, 9] (fun vb vi wr => RoInv F K w7 vb vi wr) (fun _ vi _ => N2 - (intOf vi).toNat)
  case atStart =>
    refine ⟨0, 0, _, Nat.zero_le _, rfl, rfl, rfl, ?_⟩
    unfold Hid
    rw [HN1.out, HN2.out]
    simp
  case round =>
    obtain ⟨i, m, bg, hi1, rfl, rfl, rfl, HBG⟩ := hrel
    have HI1 : i ≤ N2 := HN2.out ▸ hi1
    have hX := HX.out.2.1
    have hY := HX.out.2.2
    have hq1 := HC1.out
    have hq2 := HC2.out
    have hm1 := HM1.out
    have hm2 := HM2.out
    unfold maxLen at hm1 hm2
    clear hi1
    by_cases hlt : i < N2 ∧ bg = true
    · obtain ⟨h2, rfl⟩ := hlt
      have hbg : F.take i = K.take i ∧ F.length ≤ K.length := by have := HBG.out; exact of_decide_eq_true this.symm
      have h1 : i < N1 := by have := hbg.2; rw [HN1.out, HN2.out] at this; omega
      have c1 := HG1'.out i h1
      have c2 := HG2.out i h2
      have hte := take_ext hbg.1 (by rw [HN2.out]; exact h2) (by rw [HN1.out]; exact h1)
      obtain ⟨x, hx⟩ : ∃ x, (K.getD i 0).toNat = x := ⟨_, rfl⟩
      obtain ⟨y, hy⟩ : ∃ y, (F.getD i 0).toNat = y := ⟨_, rfl⟩
      rw [hx] at c1
      rw [hy] at c2
      by_cases hxy : y = x
      · have HV : Hid (true = decide (F.take (i + 1) = K.take (i + 1) ∧ F.length ≤ K.length)) := by
          unfold Hid
          rw [decide_eq_true (show F.take (i + 1) = K.take (i + 1) ∧ F.length ≤ K.length from ⟨hte.2 (UInt8.toNat_inj.1 (by omega)), hbg.2⟩)]
        subst hxy
        clear hx hy hte hbg HBG
        go_wp2
        go_quiet (fail)
        go_wp2
        go_roundw
        case rel => exact ⟨i + 1, _, _, by rw [HN2.out]; omega, by go_num, rfl, rfl, HV⟩
        case measure => simp [intOf]; omega
      · have HV : Hid (false = decide (F.take (i + 1) = K.take (i + 1) ∧ F.length ≤ K.length)) := by
          unfold Hid
          rw [decide_eq_false (show ¬ (F.take (i + 1) = K.take (i + 1) ∧ F.length ≤ K.length) from fun e => hxy (by rw [← hy, ← hx, hte.1 e.1]))]
        have hne : ((y : Int) == (x : Int)) = false := by simp; omega
        clear hx hy hte hbg HBG hxy
        go_wp2
        go_quiet (fail)
        go_wp2
        go_roundw
        case rel => exact ⟨i + 1, _, _, by rw [HN2.out]; omega, by go_num, rfl, rfl, HV⟩
        case measure => simp [intOf]; omega
    · have HP : Hid (bg = decide (row = r)) := by
        unfold Hid
        cases hb : bg
        · rw [decide_eq_false]
          intro e
          have hp := HX.out.1.2 e
          have : F.take i = K.take i ∧ F.length ≤ K.length := ⟨by obtain ⟨u, hu⟩ := hp; rw [← hu, List.take_append_of_le_length (by rw [HN2.out]; exact HI1)], hp.length_le⟩
          have h0 := HBG.out
          rw [decide_eq_true this, hb] at h0
          cases h0
        · have h0 := HBG.out
          rw [hb] at h0
          have hbg := of_decide_eq_true h0.symm
          have hi : i = F.length := by rw [HN2.out]; exact Nat.le_antisymm HI1 (Nat.le_of_not_lt fun h => hlt ⟨h, hb⟩)
          rw [decide_eq_true]
          refine HX.out.1.1 ?_
          have e := hbg.1
          rw [hi, List.take_of_length_le (Nat.le_refl _)] at e
          rw [e]
          exact List.take_prefix _ _
      have hlt' : ¬ (i < N2) ∨ bg = false := by
        by_cases h : i < N2
        · right; cases bg
          · rfl
          · exact absurd ⟨h, rfl⟩ hlt
        · exact .inl h
      have e0 : w7.cell? ⟨w.heap.size, 0, none⟩ = some (.string r) := HB7.out.c.cell 0
      clear hlt HBG
      by_cases hrow : row = r
      · subst hrow
        have hb : bg = true := by rw [HP.out]; simp
        subst hb
        have hi : ¬ i < N2 := by rcases hlt' with h | h; exact h; cases h
        clear HP hlt'
        go_wp2
        go_ret
        exact ⟨rfl, below_drewN HB7.out.bw _⟩
      · have hb : bg = false := by rw [HP.out]; simp [hrow]
        subst hb
        have hne : (row.toList == r.toList) = false := by
          rw [toList_eq, toList_eq]
          simp only [beq_eq_false_iff_ne, ne_eq]
          intro e
          exact hrow (by cases row; cases r; simp_all)
        clear HP hlt' hrow
        go_wp2
        all_goals go_ret
        all_goals exact ⟨rfl, below_drewN HB7.out.bw _⟩

/-- The law CodecRows, whatever the cell and the text. -/
theorem rows_any (r f q vs : ByteArray) (t k vk : Int) {vn : Int} (row : ByteArray) (hn : inI vn) (hf : f.size ≤ 9223372036854775807) (hv : vs.size ≤ 9223372036854775807) (w : World) (hL : LaidU w) :
    Calls Tryd.prog 6 #[cellV r f q t k vk vn vs, .string row] w fun e w' => e = .returned (.bool true) ∧ Below w.heap.size w w' := by
  refine crows_main r f q vs t k vk vn row w (longC r f q vs) (cRight r.data.toList f.data.toList q.data.toList t k vk vn vs.data.toList) (esc row.data.toList ++ [0, 1]) (keyM r.data.toList f.data.toList q.data.toList t k) (fun W => long1 r f q vs t k vk vn W _ rfl) (fun W hW => calive_any W (hL.below hW)) (fun W hW => cright_any r f q vs t k vk hn hf hv W (hL.below hW)) ?_
  cases longC r f q vs
  · refine .inr ⟨rfl, ?_⟩
    by_cases h100 : 100 < row.size
    · exact .inl h100
    · refine .inr ⟨by omega, ?_⟩
      cases hr1 : cRight r.data.toList f.data.toList q.data.toList t k vk vn vs.data.toList
      · exact .inl rfl
      · refine .inr ⟨rfl, ⟨first_key.trans ⟨fun e => by cases row; cases r; simp_all, fun e => by rw [e]⟩, ?_, key_len hr1⟩, key_row r f q vs t k vk hn hf hv w hL hr1, fun W => ?_⟩
        · have h1 := esc_len row.data.toList
          have h2 : row.data.toList.length = row.size := rfl
          rw [List.length_append]
          simp only [List.length_cons, List.length_nil]
          omega
        · refine (first_any row (by omega) W).mono fun e w' ⟨v, he, hR, hb⟩ => ?_
          have hcap : ∀ g c, v = .slice (some ⟨g, 0, none⟩) (esc row.data.toList ++ [0, 1]).length c → c ≤ maxLen := fun g c hv => by
            rcases hR.2 with ⟨hv2, _⟩ | ⟨g', cap, cur, hv2, _, _, _, hcm, _⟩
            · rw [hv] at hv2; cases hv2
            · rw [hv] at hv2; injection hv2 with _ _ h3; rw [h3]; exact hcm
          obtain ⟨g, c, rfl, h3, h4, h5, h6⟩ := hR.form (by rw [List.length_append]; simp)
          exact ⟨g, c, he, h5, hcap g c rfl, h6, hb⟩
  · exact .inl rfl
end Go.Proofs.YtegdkcldgepngaaDoor
