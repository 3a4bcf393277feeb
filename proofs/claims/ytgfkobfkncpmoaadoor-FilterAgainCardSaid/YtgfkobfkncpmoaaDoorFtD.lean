/- The document's Right of a filter; Lets, the package's and the document's. Conditions: the filter's texts stand. -/
import Derived.Test.YtgfkobfkncpmoaaDoorFtC
namespace Go.Proofs.YtgfkobfkncpmoaaDoor
open Go.RowKit

theorem less_cmp13 : ∀ (x y : List UInt8), Op.bytesLess x y = decide (Lib.compareBytes x y < 0)
  | [], [] => rfl
  | [], _ :: _ => rfl
  | _ :: _, [] => rfl
  | a :: x, b :: y => by
    rw [Op.bytesLess, Lib.compareBytes, less_cmp13 x y]
    by_cases h1 : a < b
    · rw [if_pos h1, decide_eq_true h1]
      rfl
    · rw [if_neg h1, decide_eq_false h1]
      by_cases h2 : b < a
      · rw [if_pos h2]
        have : (a == b) = false := beq_eq_false_iff_ne.2 fun e => by subst e; exact h1 h2
        rw [this]
        rfl
      · have e : a = b := by
          have h3 := UInt8.not_lt.1 h1
          have h4 := UInt8.not_lt.1 h2
          exact UInt8.le_antisymm h4 h3
        subst e
        rw [if_neg h2]
        simp
theorem txt_full {x : ByteArray} (h : ¬ x = ⟨#[]⟩) : x.toList.isEmpty = false := by
  rw [Lib.toList_data]
  obtain ⟨⟨l⟩⟩ := x
  cases l with
  | nil => exact absurd rfl h
  | cons a t => rfl
/-- A box: where the filter lies. -/
theorem box_fw {B0 tb : Nat} {w : World} (f : FT) (u : Value) (h0 : B0 = w.heap.size) (ht : w.heap.size = tb) : Hid (FW (w.alloc (.cells #[u, .string f.fr, .string f.tq, .int .i64 f.si, .int .i64 f.un, .int .i64 f.ve, .int .i64 f.ro] 82)) tb f u ∧ Below B0 w (w.alloc (.cells #[u, .string f.fr, .string f.tq, .int .i64 f.si, .int .i64 f.un, .int .i64 f.ve, .int .i64 f.ro] 82))) := by
  rw [← ht, h0]
  exact ⟨Blk.new w _ _, below_new w _⟩
theorem box_two {B0 tb cb : Nat} {w : World} (f : FT) (u : Value) (c : CT) (h0 : B0 = w.heap.size) (ht : w.heap.size = tb) (hc : cb = tb + 1) : Hid (FW ((w.alloc (.cells #[u, .string f.fr, .string f.tq, .int .i64 f.si, .int .i64 f.un, .int .i64 f.ve, .int .i64 f.ro] 82)).alloc (.cells #[.string c.r, .string c.f, .string c.q, .int .i64 c.t, .int .i64 c.k, .int .i64 c.vk, .int .i64 c.vn, .string c.s] 28)) tb f u ∧ DW ((w.alloc (.cells #[u, .string f.fr, .string f.tq, .int .i64 f.si, .int .i64 f.un, .int .i64 f.ve, .int .i64 f.ro] 82)).alloc (.cells #[.string c.r, .string c.f, .string c.q, .int .i64 c.t, .int .i64 c.k, .int .i64 c.vk, .int .i64 c.vn, .string c.s] 28)) cb c ∧ Below B0 w ((w.alloc (.cells #[u, .string f.fr, .string f.tq, .int .i64 f.si, .int .i64 f.un, .int .i64 f.ve, .int .i64 f.ro] 82)).alloc (.cells #[.string c.r, .string c.f, .string c.q, .int .i64 c.t, .int .i64 c.k, .int .i64 c.vk, .int .i64 c.vn, .string c.s] 28))) := by
  rw [hc, ← ht, h0]
  have h1 : FW (w.alloc (.cells #[u, .string f.fr, .string f.tq, .int .i64 f.si, .int .i64 f.un, .int .i64 f.ve, .int .i64 f.ro] 82)) w.heap.size f u := Blk.new w _ _
  have h2 := Blk.new (w.alloc (.cells #[u, .string f.fr, .string f.tq, .int .i64 f.si, .int .i64 f.un, .int .i64 f.ve, .int .i64 f.ro] 82)) 28 #[.string c.r, .string c.f, .string c.q, .int .i64 c.t, .int .i64 c.k, .int .i64 c.vk, .int .i64 c.vn, .string c.s]
  exact ⟨h1.below (below_new _ _), by have h3 := h2; rw [show (w.alloc (.cells #[u, .string f.fr, .string f.tq, .int .i64 f.si, .int .i64 f.un, .int .i64 f.ve, .int .i64 f.ro] 82)).heap.size = w.heap.size + 1 by simp] at h3; exact h3, (below_new w _).trans ((below_new _ _).mono (by simp))⟩
set_option maxRecDepth 100000 in
set_option maxHeartbeats 16000000 in
theorem rright13_any (u : Value) (f : FT) (hs : ∀ x ∈ f.fams, x.size ≤ 9223372036854775807) (w : World) (h : TxA w u f.fams) :
    Calls Tryd.prog 66 #[f.v u] w fun e w' => e = .returned (.bool f.right) ∧ Below w.heap.size w w' := by
  have HR : Hid (f.right = ((decide (f.fams.length ≤ 6) && namesB f.fams) && (decide (f.fr.size ≤ 12) && decide (f.tq.size ≤ 12)) && ((decide (0 ≤ f.si) && decide (f.si ≤ 1099511627776)) && (decide (0 ≤ f.un) && decide (f.un ≤ 1099511627776))) && ((decide (0 ≤ f.ve) && decide (f.ve ≤ 8)) && (decide (0 ≤ f.ro) && decide (f.ro ≤ 1000))))) := rfl
  have HS := hid hs
  have HT := hid h
  obtain ⟨A, c, e0, h1, h2, hh⟩ := h
  have HH := hid hh
  clear hh hs
  obtain ⟨m, hm⟩ : ∃ m, f.fams.length = m := ⟨_, rfl⟩
  have HM := hid hm
  obtain ⟨p, hp⟩ : ∃ p, f.fr.size = p := ⟨_, rfl⟩
  obtain ⟨q, hq⟩ : ∃ q, f.tq.size = q := ⟨_, rfl⟩
  rw [hm] at e0 h1
  subst e0
  have HR2 := HR
  rw [hm, hp, hq] at HR
  obtain ⟨R, hR⟩ : ∃ R, f.right = R := ⟨_, rfl⟩
  rw [hR] at HR ⊢
  obtain ⟨B0, hB0⟩ : ∃ B0, B0 = w.heap.size := ⟨_, rfl⟩
  obtain ⟨tb, htb⟩ : ∃ tb, w.heap.size = tb := ⟨_, rfl⟩
  rw [← hB0]
  show Calls Tryd.prog _ #[.agg #[_, .string f.fr, .string f.tq, .int .i64 f.si, .int .i64 f.un, .int .i64 f.ve, .int .i64 f.ro]] w _
  go_enter Tryd.func66, Tryd.ntmps66
  go_upto_region 1 with (fail)
  refine wp_lt13 (fun W => Hid (FW W tb f (.slice A m c) ∧ Below B0 w W)) (box_fw f _ hB0 htb) ?_
  rintro W0 H0
  have HTx : Hid (∀ (i : Nat) (x : ByteArray), f.fams[i]? = some x → ∃ b off, A = some ⟨b, off, none⟩ ∧ W0.cell? ⟨b, off + i, none⟩ = some (.string x)) := fun i x hx => by
    have hi : i < f.fams.length := (List.getElem?_eq_some_iff.1 hx).1
    obtain ⟨b, off, e, hc⟩ := HH.out (by omega)
    have h9 := hc i x hx
    exact ⟨b, off, e, (H0.out.2.cell (p := ⟨b, off + i, none⟩) (by rw [hB0]; exact cell_lt h9)).trans h9⟩
  obtain ⟨y0, y1, y2, y3, y4, y5, y6⟩ := H0.out.1.words
  have HN : Hid (namesB f.fams = false → R = false) := fun e => by rw [HR.out, e]; simp
  have HBw := hid H0.out.2
  obtain ⟨fr, hfr⟩ : ∃ x, f.fr = x := ⟨_, rfl⟩
  obtain ⟨tq, htq⟩ : ∃ x, f.tq = x := ⟨_, rfl⟩
  obtain ⟨si, hsi⟩ : ∃ x, f.si = x := ⟨_, rfl⟩
  obtain ⟨un, hun⟩ : ∃ x, f.un = x := ⟨_, rfl⟩
  obtain ⟨ve, hve⟩ : ∃ x, f.ve = x := ⟨_, rfl⟩
  obtain ⟨ro, hro⟩ : ∃ x, f.ro = x := ⟨_, rfl⟩
  rw [hfr] at hp y1
  rw [htq] at hq y2
  rw [hsi] at HR y3
  rw [hun] at HR y4
  rw [hve] at HR y5
  rw [hro] at HR y6
  rw [hfr, htq, hsi, hun, hve, hro]
  clear hm hR hfr htq hsi hun hve hro HR2 H0 HH HT hB0 htb
  subst hp hq
  go_wp2
  go_loopw [3] (fun vi wr => ∃ k : Nat, k ≤ m ∧ vi = .int .i64 k ∧ Hid (namesB (f.fams.take k) = true) ∧ wr = W0) (fun vi _ => m - (intOf vi).toNat)
  case atStart => exact ⟨0, by omega, rfl, rfl, rfl⟩
  case round =>
    obtain ⟨k, hk, rfl, HA, rfl⟩ := hrel
    by_cases hlt : k < m
    · have hkl : k < f.fams.length := by rw [HM.out]; exact hlt
      obtain ⟨b, off, rfl, x0⟩ := HTx.out k _ (List.getElem?_eq_getElem hkl)
      have HTk := hid (namesB_take hkl)
      have HNk : Hid (nameB f.fams[k].data.toList = false → namesB f.fams = false) := fun e => namesB_no hkl e
      have HUk := hid (refName_any f.fams[k] (HS.out _ (List.getElem_mem hkl)))
      obtain ⟨y, hy⟩ : ∃ y, f.fams[k] = y := ⟨_, rfl⟩
      rw [hy] at x0 HTk HUk HNk
      clear hy hkl
      cases hq : nameB y.data.toList with
      | false =>
        rw [hq] at HUk HNk
        have HRf : Hid (R = false) := HN.out (by simpa using HNk.out)
        go_wp2_with (go_at_call 96; refine (HUk.out _).mono ?_; rintro e w2 ⟨rfl, rfl⟩)
        go_ret
        exact ⟨by rw [HRf.out]; rfl, HBw.out⟩
      | true =>
        rw [hq] at HUk HTk
        go_wp2_with (go_at_call 96; refine (HUk.out _).mono ?_; rintro e w2 ⟨rfl, rfl⟩)
        go_roundw
        case rel => exact ⟨k + 1, by omega, by go_num, by show _ = _; rw [HTk.out, HA.out]; rfl, by first | rfl | trivial⟩
        case measure => simp [intOf]; omega
    · have HNt : Hid (namesB f.fams = true) := by
        have h1 := HA.out
        rw [List.take_of_length_le (by have := HM.out; omega)] at h1
        exact h1
      rw [HNt.out] at HR
      clear HTx HN HA
      by_cases g0 : (m : Int) ≤ 6
      · have d0 : m ≤ 6 := by omega
        by_cases g1 : (fr.size : Int) ≤ 12
        · have d1 : fr.size ≤ 12 := by omega
          by_cases g2 : (tq.size : Int) ≤ 12
          · have d2 : tq.size ≤ 12 := by omega
            by_cases g3 : 0 ≤ si
            · have d3 := decide_eq_true g3
              by_cases g4 : si ≤ 1099511627776
              · have d4 := decide_eq_true g4
                by_cases g5 : 0 ≤ un
                · have d5 := decide_eq_true g5
                  by_cases g6 : un ≤ 1099511627776
                  · have d6 := decide_eq_true g6
                    by_cases g7 : 0 ≤ ve
                    · have d7 := decide_eq_true g7
                      by_cases g8 : ve ≤ 8
                      · have d8 := decide_eq_true g8
                        by_cases g9 : 0 ≤ ro
                        · have d9 := decide_eq_true g9
                          by_cases g10 : ro ≤ 1000
                          · have d10 := decide_eq_true g10
                            go_wp2
                            go_ret
                            exact ⟨by rw [HR.out]; simp [*], HBw.out⟩
                          · have d10 := decide_eq_false g10
                            go_wp2
                            go_ret
                            exact ⟨by rw [HR.out]; simp [*], HBw.out⟩
                        · have d9 := decide_eq_false g9
                          go_wp2
                          go_ret
                          exact ⟨by rw [HR.out]; simp [*], HBw.out⟩
                      · have d8 := decide_eq_false g8
                        go_wp2
                        go_ret
                        exact ⟨by rw [HR.out]; simp [*], HBw.out⟩
                    · have d7 := decide_eq_false g7
                      go_wp2
                      go_ret
                      exact ⟨by rw [HR.out]; simp [*], HBw.out⟩
                  · have d6 := decide_eq_false g6
                    go_wp2
                    go_ret
                    exact ⟨by rw [HR.out]; simp [*], HBw.out⟩
                · have d5 := decide_eq_false g5
                  go_wp2
                  go_ret
                  exact ⟨by rw [HR.out]; simp [*], HBw.out⟩
              · have d4 := decide_eq_false g4
                go_wp2
                go_ret
                exact ⟨by rw [HR.out]; simp [*], HBw.out⟩
            · have d3 := decide_eq_false g3
              go_wp2
              go_ret
              exact ⟨by rw [HR.out]; simp [*], HBw.out⟩
          · have d2 : ¬ tq.size ≤ 12 := by omega
            go_wp2
            go_ret
            exact ⟨by rw [HR.out]; simp [*], HBw.out⟩
        · have d1 : ¬ fr.size ≤ 12 := by omega
          go_wp2
          go_ret
          exact ⟨by rw [HR.out]; simp [*], HBw.out⟩
      · have d0 : ¬ m ≤ 6 := by omega
        go_wp2
        go_ret
        exact ⟨by rw [HR.out]; simp [*], HBw.out⟩
set_option maxRecDepth 100000 in
set_option maxHeartbeats 16000000 in
theorem lets13_any (u : Value) (f : FT) (c : CT) (w : World) (h : TxA w u f.fams) :
    Calls Tryd.prog 67 #[f.v u, c.v] w fun e w' => e = .returned (.bool (f.lets c)) ∧ Below w.heap.size w w' := by
  have HR : Hid (f.lets c = ((f.fams.isEmpty || hasT f.fams c.f) && (!decide (Lib.compareBytes c.q.data.toList f.fr.data.toList < 0)) && (decide (f.tq.size = 0) || decide (Lib.compareBytes c.q.data.toList f.tq.data.toList < 0)) && (decide (f.si ≤ c.t) && (decide (f.un = 0) || decide (c.t < f.un))))) := rfl
  have HT := hid h
  obtain ⟨A, c0, e0, h1, h2, -⟩ := h
  obtain ⟨m, hm⟩ : ∃ m, f.fams.length = m := ⟨_, rfl⟩
  have HM := hid hm
  have he : f.fams.isEmpty = decide (m = 0) := by
    rw [← hm]
    cases f.fams <;> simp
  rw [he] at HR
  rw [hm] at e0 h1
  subst e0
  obtain ⟨R, hR⟩ : ∃ R, f.lets c = R := ⟨_, rfl⟩
  rw [hR] at HR ⊢
  obtain ⟨zf, hzf⟩ : ∃ z, hasT f.fams c.f = z := ⟨_, rfl⟩
  rw [hzf] at HR
  have HZf := hid hzf
  obtain ⟨B0, hB0⟩ : ∃ B0, B0 = w.heap.size := ⟨_, rfl⟩
  obtain ⟨tb, htb⟩ : ∃ tb, w.heap.size = tb := ⟨_, rfl⟩
  obtain ⟨cb, hcb⟩ : ∃ cb, tb + 1 = cb := ⟨_, rfl⟩
  rw [← hB0]
  show Calls Tryd.prog _ #[.agg #[_, .string f.fr, .string f.tq, .int .i64 f.si, .int .i64 f.un, .int .i64 f.ve, .int .i64 f.ro], .agg #[.string c.r, .string c.f, .string c.q, .int .i64 c.t, .int .i64 c.k, .int .i64 c.vk, .int .i64 c.vn, .string c.s]] w _
  go_enter Tryd.func67, Tryd.ntmps67
  go_upto_region 1 with (fail)
  refine wp_lt13 (fun W => Hid (FW W tb f (.slice A m c0) ∧ DW W cb c ∧ Below B0 w W)) (box_two f _ c hB0 htb hcb.symm) ?_
  rintro W0 H0
  have HBw := hid H0.out.2.2
  have HTA : Hid (TxA W0 (.slice A m c0) f.fams) := HT.out.below (by rw [← hB0]; exact H0.out.2.2)
  have HWd : Hid (∀ W, Below W0.heap.size W0 W → (W.cell? ⟨tb, 0, none⟩ = some (.slice A m c0) ∧ W.cell? ⟨tb, 1, none⟩ = some (.string f.fr) ∧ W.cell? ⟨tb, 2, none⟩ = some (.string f.tq) ∧ W.cell? ⟨tb, 3, none⟩ = some (.int .i64 f.si) ∧ W.cell? ⟨tb, 4, none⟩ = some (.int .i64 f.un)) ∧ (W.cell? ⟨cb, 0, none⟩ = some (.string c.r) ∧ W.cell? ⟨cb, 1, none⟩ = some (.string c.f) ∧ W.cell? ⟨cb, 2, none⟩ = some (.string c.q) ∧ W.cell? ⟨cb, 3, none⟩ = some (.int .i64 c.t))) := fun W hW => by
    obtain ⟨y0, y1, y2, y3, y4, _, _⟩ := (H0.out.1.below hW).words
    obtain ⟨x0, x1, x2, x3, _⟩ := (H0.out.2.1.below hW).words
    exact ⟨⟨y0, y1, y2, y3, y4⟩, x0, x1, x2, x3⟩
  have HBB : Hid (∀ W, Below W0.heap.size W0 W → Below B0 w W) := fun W hW => HBw.out.trans (hW.mono (by have := HBw.out.size; omega))
  have HCt : Hid (Calls Tryd.prog 137 #[.slice A m c0, .string c.f] W0 fun e w' => e = .returned (.bool zf) ∧ w' = W0) := by
    have h9 := contains_txt _ _ c.f W0 HTA.out
    rw [HZf.out] at h9
    exact h9
  obtain ⟨fr, hfr⟩ : ∃ x, f.fr = x := ⟨_, rfl⟩
  obtain ⟨tq, htq⟩ : ∃ x, f.tq = x := ⟨_, rfl⟩
  obtain ⟨si, hsi⟩ : ∃ x, f.si = x := ⟨_, rfl⟩
  obtain ⟨un, hun⟩ : ∃ x, f.un = x := ⟨_, rfl⟩
  obtain ⟨ve, hve⟩ : ∃ x, f.ve = x := ⟨_, rfl⟩
  obtain ⟨ro, hro⟩ : ∃ x, f.ro = x := ⟨_, rfl⟩
  obtain ⟨cf, hcf⟩ : ∃ x, c.f = x := ⟨_, rfl⟩
  obtain ⟨cq, hcq⟩ : ∃ x, c.q = x := ⟨_, rfl⟩
  obtain ⟨ct, hct⟩ : ∃ x, c.t = x := ⟨_, rfl⟩
  rw [hfr, htq, hsi, hun, hcq, hct] at HR
  rw [hfr, htq, hsi, hun, hcf, hcq, hct] at HWd
  rw [hfr, htq, hsi, hun, hve, hro, hcf, hcq, hct]
  rw [hcf] at HCt
  clear he hm hR hfr htq hsi hun hve hro hcf hcq hct H0 hB0 htb hcb hzf
  have HL1 := less_cmp13 cq.toList fr.toList
  have HL2 := less_cmp13 cq.toList tq.toList
  rw [show Lib.compareBytes cq.toList fr.toList = Lib.compareBytes cq.data.toList fr.data.toList by rw [Lib.toList_data, Lib.toList_data]] at HL1
  rw [show Lib.compareBytes cq.toList tq.toList = Lib.compareBytes cq.data.toList tq.data.toList by rw [Lib.toList_data, Lib.toList_data]] at HL2
  rw [← HL1, ← HL2] at HR
  clear HL1 HL2 HTA HM HZf HT
  obtain ⟨⟨y0, y1, y2, y3, y4⟩, x0, x1, x2, x3⟩ := HWd.out W0 (Below.refl _ _)
  clear HWd
  obtain ⟨z1, hz1⟩ : ∃ z, Op.bytesLess cq.toList fr.toList = z := ⟨_, rfl⟩
  obtain ⟨z2, hz2⟩ : ∃ z, Op.bytesLess cq.toList tq.toList = z := ⟨_, rfl⟩
  rw [hz1, hz2] at HR
  by_cases g0 : m = 0
  · have gz0 : (m : Int) = 0 := by omega
    cases z1 with
    | false =>
      by_cases g2 : tq = ⟨#[]⟩
      · subst g2
        have g2s : (⟨#[]⟩ : ByteArray).size = 0 := rfl
        by_cases g3 : si ≤ ct
        · have d3 := decide_eq_true g3
          by_cases g4 : un = 0
          · have d4 := decide_eq_true g4
            go_wp2_with (first | (go_at_call 137; refine HCt.out.mono ?_; rintro e w2 ⟨rfl, rfl⟩))
            go_ret
            exact ⟨by rw [HR.out]; simp [*], HBB.out _ (Below.refl _ _)⟩
          · have d4 := decide_eq_false g4
            by_cases g5 : ct < un
            · have d5 := decide_eq_true g5
              go_wp2_with (first | (go_at_call 137; refine HCt.out.mono ?_; rintro e w2 ⟨rfl, rfl⟩))
              go_ret
              exact ⟨by rw [HR.out]; simp [*], HBB.out _ (Below.refl _ _)⟩
            · have d5 := decide_eq_false g5
              go_wp2_with (first | (go_at_call 137; refine HCt.out.mono ?_; rintro e w2 ⟨rfl, rfl⟩))
              go_ret
              exact ⟨by rw [HR.out]; simp [*], HBB.out _ (Below.refl _ _)⟩
        · have d3 := decide_eq_false g3
          go_wp2_with (first | (go_at_call 137; refine HCt.out.mono ?_; rintro e w2 ⟨rfl, rfl⟩))
          go_ret
          exact ⟨by rw [HR.out]; simp [*], HBB.out _ (Below.refl _ _)⟩
      · have g2n : tq.toList.isEmpty = false := txt_full g2
        have g2s : ¬ tq.size = 0 := fun e => g2 (by obtain ⟨⟨l⟩⟩ := tq; cases l with | nil => rfl | cons a t => cases e)
        cases z2 with
        | true =>
          by_cases g3 : si ≤ ct
          · have d3 := decide_eq_true g3
            by_cases g4 : un = 0
            · have d4 := decide_eq_true g4
              go_wp2_with (first | (go_at_call 137; refine HCt.out.mono ?_; rintro e w2 ⟨rfl, rfl⟩))
              go_ret
              exact ⟨by rw [HR.out]; simp [*], HBB.out _ (Below.refl _ _)⟩
            · have d4 := decide_eq_false g4
              by_cases g5 : ct < un
              · have d5 := decide_eq_true g5
                go_wp2_with (first | (go_at_call 137; refine HCt.out.mono ?_; rintro e w2 ⟨rfl, rfl⟩))
                go_ret
                exact ⟨by rw [HR.out]; simp [*], HBB.out _ (Below.refl _ _)⟩
              · have d5 := decide_eq_false g5
                go_wp2_with (first | (go_at_call 137; refine HCt.out.mono ?_; rintro e w2 ⟨rfl, rfl⟩))
                go_ret
                exact ⟨by rw [HR.out]; simp [*], HBB.out _ (Below.refl _ _)⟩
          · have d3 := decide_eq_false g3
            go_wp2_with (first | (go_at_call 137; refine HCt.out.mono ?_; rintro e w2 ⟨rfl, rfl⟩))
            go_ret
            exact ⟨by rw [HR.out]; simp [*], HBB.out _ (Below.refl _ _)⟩
        | false =>
          go_wp2_with (first | (go_at_call 137; refine HCt.out.mono ?_; rintro e w2 ⟨rfl, rfl⟩))
          go_ret
          exact ⟨by rw [HR.out]; simp [*], HBB.out _ (Below.refl _ _)⟩
    | true =>
      go_wp2_with (first | (go_at_call 137; refine HCt.out.mono ?_; rintro e w2 ⟨rfl, rfl⟩))
      go_ret
      exact ⟨by rw [HR.out]; simp [*], HBB.out _ (Below.refl _ _)⟩
  · have gz0 : ¬ (m : Int) = 0 := by omega
    cases zf with
    | true =>
      cases z1 with
      | false =>
        by_cases g2 : tq = ⟨#[]⟩
        · subst g2
          have g2s : (⟨#[]⟩ : ByteArray).size = 0 := rfl
          by_cases g3 : si ≤ ct
          · have d3 := decide_eq_true g3
            by_cases g4 : un = 0
            · have d4 := decide_eq_true g4
              go_wp2_with (first | (go_at_call 137; refine HCt.out.mono ?_; rintro e w2 ⟨rfl, rfl⟩))
              go_ret
              exact ⟨by rw [HR.out]; simp [*], HBB.out _ (Below.refl _ _)⟩
            · have d4 := decide_eq_false g4
              by_cases g5 : ct < un
              · have d5 := decide_eq_true g5
                go_wp2_with (first | (go_at_call 137; refine HCt.out.mono ?_; rintro e w2 ⟨rfl, rfl⟩))
                go_ret
                exact ⟨by rw [HR.out]; simp [*], HBB.out _ (Below.refl _ _)⟩
              · have d5 := decide_eq_false g5
                go_wp2_with (first | (go_at_call 137; refine HCt.out.mono ?_; rintro e w2 ⟨rfl, rfl⟩))
                go_ret
                exact ⟨by rw [HR.out]; simp [*], HBB.out _ (Below.refl _ _)⟩
          · have d3 := decide_eq_false g3
            go_wp2_with (first | (go_at_call 137; refine HCt.out.mono ?_; rintro e w2 ⟨rfl, rfl⟩))
            go_ret
            exact ⟨by rw [HR.out]; simp [*], HBB.out _ (Below.refl _ _)⟩
        · have g2n : tq.toList.isEmpty = false := txt_full g2
          have g2s : ¬ tq.size = 0 := fun e => g2 (by obtain ⟨⟨l⟩⟩ := tq; cases l with | nil => rfl | cons a t => cases e)
          cases z2 with
          | true =>
            by_cases g3 : si ≤ ct
            · have d3 := decide_eq_true g3
              by_cases g4 : un = 0
              · have d4 := decide_eq_true g4
                go_wp2_with (first | (go_at_call 137; refine HCt.out.mono ?_; rintro e w2 ⟨rfl, rfl⟩))
                go_ret
                exact ⟨by rw [HR.out]; simp [*], HBB.out _ (Below.refl _ _)⟩
              · have d4 := decide_eq_false g4
                by_cases g5 : ct < un
                · have d5 := decide_eq_true g5
                  go_wp2_with (first | (go_at_call 137; refine HCt.out.mono ?_; rintro e w2 ⟨rfl, rfl⟩))
                  go_ret
                  exact ⟨by rw [HR.out]; simp [*], HBB.out _ (Below.refl _ _)⟩
                · have d5 := decide_eq_false g5
                  go_wp2_with (first | (go_at_call 137; refine HCt.out.mono ?_; rintro e w2 ⟨rfl, rfl⟩))
                  go_ret
                  exact ⟨by rw [HR.out]; simp [*], HBB.out _ (Below.refl _ _)⟩
            · have d3 := decide_eq_false g3
              go_wp2_with (first | (go_at_call 137; refine HCt.out.mono ?_; rintro e w2 ⟨rfl, rfl⟩))
              go_ret
              exact ⟨by rw [HR.out]; simp [*], HBB.out _ (Below.refl _ _)⟩
          | false =>
            go_wp2_with (first | (go_at_call 137; refine HCt.out.mono ?_; rintro e w2 ⟨rfl, rfl⟩))
            go_ret
            exact ⟨by rw [HR.out]; simp [*], HBB.out _ (Below.refl _ _)⟩
      | true =>
        go_wp2_with (first | (go_at_call 137; refine HCt.out.mono ?_; rintro e w2 ⟨rfl, rfl⟩))
        go_ret
        exact ⟨by rw [HR.out]; simp [*], HBB.out _ (Below.refl _ _)⟩
    | false =>
      go_wp2_with (first | (go_at_call 137; refine HCt.out.mono ?_; rintro e w2 ⟨rfl, rfl⟩))
      go_ret
      exact ⟨by rw [HR.out]; simp [*], HBB.out _ (Below.refl _ _)⟩
end Go.Proofs.YtgfkobfkncpmoaaDoor
