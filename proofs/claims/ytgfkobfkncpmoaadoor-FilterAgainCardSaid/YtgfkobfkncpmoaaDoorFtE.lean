/- The document's Lets of a filter; Clone. Conditions: the filter's texts stand; texts have a size that Go has. -/
import Derived.Test.YtgfkobfkncpmoaaDoorFtD
namespace Go.Proofs.YtgfkobfkncpmoaaDoor
open Go.RowKit

theorem hasT_take {l : List ByteArray} {k : Nat} (h : k < l.length) (x : ByteArray) : hasT (l.take (k + 1)) x = (hasT (l.take k) x || decide (l[k] = x)) := by
  unfold hasT
  rw [List.take_succ_eq_append_getElem h, List.any_append]
  simp
set_option maxRecDepth 100000 in
set_option maxHeartbeats 16000000 in
theorem rlets13_any (u : Value) (f : FT) (c : CT) (hq : c.q.size ≤ 9223372036854775807) (hfr9 : f.fr.size ≤ 9223372036854775807) (htq9 : f.tq.size ≤ 9223372036854775807) (w : World) (h : TxA w u f.fams) :
    Calls Tryd.prog 68 #[f.v u, c.v] w fun e w' => e = .returned (.bool (f.lets c)) ∧ Below w.heap.size w w' := by
  have mixed : Tryd.prog.follows .mixedOrders = true := by kernel_rfl
  have HR : Hid (f.lets c = ((f.fams.isEmpty || hasT f.fams c.f) && (!decide (Lib.compareBytes c.q.data.toList f.fr.data.toList < 0)) && (decide (f.tq.size = 0) || decide (Lib.compareBytes c.q.data.toList f.tq.data.toList < 0)) && (decide (f.si ≤ c.t) && (decide (f.un = 0) || decide (c.t < f.un))))) := rfl
  have HT := hid h
  obtain ⟨A, c0, e0, h1, h2, -⟩ := h
  obtain ⟨m, hm⟩ : ∃ m, f.fams.length = m := ⟨_, rfl⟩
  have HM := hid hm
  have he : f.fams.isEmpty = decide (m = 0) := by
    rw [← hm]
    cases f.fams <;> simp
  rw [he] at HR
  rw [hm] at e0 h1
  subst e0
  obtain ⟨R, hR⟩ : ∃ R, f.lets c = R := ⟨_, rfl⟩
  rw [hR] at HR ⊢
  obtain ⟨zf, hzf⟩ : ∃ z, hasT f.fams c.f = z := ⟨_, rfl⟩
  rw [hzf] at HR
  have HZf := hid hzf
  obtain ⟨B0, hB0⟩ : ∃ B0, B0 = w.heap.size := ⟨_, rfl⟩
  obtain ⟨tb, htb⟩ : ∃ tb, w.heap.size = tb := ⟨_, rfl⟩
  obtain ⟨cb, hcb⟩ : ∃ cb, tb + 1 = cb := ⟨_, rfl⟩
  rw [← hB0]
  show Calls Tryd.prog _ #[.agg #[_, .string f.fr, .string f.tq, .int .i64 f.si, .int .i64 f.un, .int .i64 f.ve, .int .i64 f.ro], .agg #[.string c.r, .string c.f, .string c.q, .int .i64 c.t, .int .i64 c.k, .int .i64 c.vk, .int .i64 c.vn, .string c.s]] w _
  go_enter Tryd.func68, Tryd.ntmps68
  go_upto_region 1 with (fail)
  refine wp_lt13 (fun W => Hid (FW W tb f (.slice A m c0) ∧ DW W cb c ∧ Below B0 w W)) (box_two f _ c hB0 htb hcb.symm) ?_
  rintro W0 H0
  have HBw := hid H0.out.2.2
  have HTA : Hid (TxA W0 (.slice A m c0) f.fams) := HT.out.below (by rw [← hB0]; exact H0.out.2.2)
  have HWd : Hid (∀ W, Below W0.heap.size W0 W → (W.cell? ⟨tb, 0, none⟩ = some (.slice A m c0) ∧ W.cell? ⟨tb, 1, none⟩ = some (.string f.fr) ∧ W.cell? ⟨tb, 2, none⟩ = some (.string f.tq) ∧ W.cell? ⟨tb, 3, none⟩ = some (.int .i64 f.si) ∧ W.cell? ⟨tb, 4, none⟩ = some (.int .i64 f.un)) ∧ (W.cell? ⟨cb, 0, none⟩ = some (.string c.r) ∧ W.cell? ⟨cb, 1, none⟩ = some (.string c.f) ∧ W.cell? ⟨cb, 2, none⟩ = some (.string c.q) ∧ W.cell? ⟨cb, 3, none⟩ = some (.int .i64 c.t))) := fun W hW => by
    obtain ⟨y0, y1, y2, y3, y4, _, _⟩ := (H0.out.1.below hW).words
    obtain ⟨x0, x1, x2, x3, _⟩ := (H0.out.2.1.below hW).words
    exact ⟨⟨y0, y1, y2, y3, y4⟩, x0, x1, x2, x3⟩
  have HBB : Hid (∀ W, Below W0.heap.size W0 W → Below B0 w W) := fun W hW => HBw.out.trans (hW.mono (by have := HBw.out.size; omega))
  have HT1 : Hid (∀ W, Calls Tryd.prog 123 #[.string c.q, .string f.fr] W fun e w' => e = .returned (.int .i64 (Lib.compareBytes c.q.data.toList f.fr.data.toList)) ∧ Below W.heap.size W w') := fun W => texts_any c.q f.fr hq hfr9 W
  have HT2 : Hid (∀ W, Calls Tryd.prog 123 #[.string c.q, .string f.tq] W fun e w' => e = .returned (.int .i64 (Lib.compareBytes c.q.data.toList f.tq.data.toList)) ∧ Below W.heap.size W w') := fun W => texts_any c.q f.tq hq htq9 W
  clear hq hfr9 htq9
  obtain ⟨z1, hz1⟩ : ∃ z, Lib.compareBytes c.q.data.toList f.fr.data.toList = z := ⟨_, rfl⟩
  obtain ⟨z2, hz2⟩ : ∃ z, Lib.compareBytes c.q.data.toList f.tq.data.toList = z := ⟨_, rfl⟩
  rw [hz1, hz2] at HR
  rw [hz1] at HT1
  rw [hz2] at HT2
  have HTx : Hid (∀ (i : Nat) (x : ByteArray), f.fams[i]? = some x → ∃ b off, A = some ⟨b, off, none⟩ ∧ ∀ W, Below W0.heap.size W0 W → W.cell? ⟨b, off + i, none⟩ = some (.string x)) := fun i x hx => by
    have hi : i < f.fams.length := (List.getElem?_eq_some_iff.1 hx).1
    obtain ⟨A', c', e9, _, _, hh⟩ := HTA.out
    injection e9 with e9 _ _
    obtain ⟨b, off, e, hc⟩ := hh (by omega)
    have h9 := hc i x hx
    exact ⟨b, off, by rw [e9, e], fun W hW => (hW.cell (p := ⟨b, off + i, none⟩) (cell_lt h9)).trans h9⟩
  obtain ⟨fr, hfr⟩ : ∃ x, f.fr = x := ⟨_, rfl⟩
  obtain ⟨tq, htq⟩ : ∃ x, f.tq = x := ⟨_, rfl⟩
  obtain ⟨si, hsi⟩ : ∃ x, f.si = x := ⟨_, rfl⟩
  obtain ⟨un, hun⟩ : ∃ x, f.un = x := ⟨_, rfl⟩
  obtain ⟨ve, hve⟩ : ∃ x, f.ve = x := ⟨_, rfl⟩
  obtain ⟨ro, hro⟩ : ∃ x, f.ro = x := ⟨_, rfl⟩
  obtain ⟨cf, hcf⟩ : ∃ x, c.f = x := ⟨_, rfl⟩
  obtain ⟨cq, hcq⟩ : ∃ x, c.q = x := ⟨_, rfl⟩
  obtain ⟨ct, hct⟩ : ∃ x, c.t = x := ⟨_, rfl⟩
  rw [htq, hsi, hun, hct] at HR
  rw [hfr, htq, hsi, hun, hcf, hcq, hct] at HWd
  rw [hfr, htq, hsi, hun, hve, hro, hcf, hcq, hct]
  rw [hcf] at HZf
  rw [hcq, hfr] at HT1
  rw [hcq, htq] at HT2
  clear hz1 hz2 HT he hm hR hfr htq hsi hun hve hro hcf hcq hct H0 hB0 htb hcb hzf
  have HBe : Hid (∀ k, m ≤ k → hasT (f.fams.take k) cf = zf) := fun k hk => by
    rw [List.take_of_length_le (by have := HM.out; omega)]
    exact HZf.out
  clear HTA
  obtain ⟨b0, hb0⟩ : ∃ b, decide (m = 0) = b := ⟨_, rfl⟩
  have HB0 := hid hb0
  rw [hb0] at HR
  have hbz : ((m : Int) == 0) = b0 := by rw [← hb0]; by_cases h : m = 0 <;> simp [h]
  obtain ⟨⟨y0, y1, y2, y3, y4⟩, x0, x1, x2, x3⟩ := HWd.out W0 (Below.refl _ _)
  go_upto_region 2 with (fail)
  clear hbz hb0 y0 y1 y2 y3 y4 x0 x1 x2 x3
  go_wp2
  go_loopw [5, 6] (fun vb vi wr => ∃ (k : Nat) (b : Bool), k ≤ m ∧ vi = .int .i64 k ∧ vb = .bool b ∧ Hid (b = (b0 || hasT (f.fams.take k) cf)) ∧ Hid (Below W0.heap.size W0 wr)) (fun _ vi _ => m - (intOf vi).toNat)
  case atStart => exact ⟨0, b0, Nat.zero_le _, rfl, rfl, by show _ = _; rw [List.take_zero]; unfold hasT; simp, Below.refl _ _⟩
  case round =>
    obtain ⟨k, b, hk, rfl, rfl, HA, HB⟩ := hrel
    obtain ⟨⟨y0, y1, y2, y3, y4⟩, x0, x1, x2, x3⟩ := HWd.out wr HB.out
    by_cases hlt : k < m
    · have hkl : k < f.fams.length := by rw [HM.out]; exact hlt
      obtain ⟨bb, off, rfl, x8⟩ := HTx.out k _ (List.getElem?_eq_getElem hkl)
      have x9 := x8 wr HB.out
      clear x8
      have HTk := hid (hasT_take hkl cf)
      obtain ⟨y, hy⟩ : ∃ y, f.fams[k] = y := ⟨_, rfl⟩
      rw [hy] at x9 HTk
      clear hy hkl
      cases b with
      | true =>
        have HA2 : Hid (true = (b0 || hasT (f.fams.take (k + 1)) cf)) := by show _ = _; rw [HTk.out, ← Bool.or_assoc, ← HA.out]; rfl
        go_upto_region 5 with (fail)
        go_region
        all_goals
          go_wp2
          go_roundw
          case rel => exact ⟨k + 1, true, by omega, by go_num, rfl, HA2.out, by first | exact HB.out | exact HB.out.drew | exact Go.below_drewN HB.out _⟩
          case measure => simp [intOf]; omega
      | false =>
        by_cases hyc : y = cf
        · have HA2 : Hid (true = (b0 || hasT (f.fams.take (k + 1)) cf)) := by show _ = _; rw [HTk.out, decide_eq_true hyc]; simp
          subst hyc
          go_upto_region 5 with (fail)
          go_region
          all_goals
            go_wp2
            go_roundw
            case rel => exact ⟨k + 1, true, by omega, by go_num, by simp, HA2.out, by first | exact HB.out | exact HB.out.drew | exact Go.below_drewN HB.out _⟩
            case measure => simp [intOf]; omega
        · have HA2 : Hid (false = (b0 || hasT (f.fams.take (k + 1)) cf)) := by show _ = _; rw [HTk.out, decide_eq_false hyc, Bool.or_false]; exact HA.out
          have hyn := txt_ne hyc
          go_upto_region 5 with (fail)
          go_region
          all_goals
            go_wp2
            go_roundw
            case rel => exact ⟨k + 1, false, by omega, by go_num, by first | rfl | simp [hyn], HA2.out, by first | exact HB.out | exact HB.out.drew | exact Go.below_drewN HB.out _⟩
            case measure => simp [intOf]; omega
    · have HR2 : Hid (R = (b && !decide (z1 < 0) && (decide (tq.size = 0) || decide (z2 < 0)) && (decide (si ≤ ct) && (decide (un = 0) || decide (ct < un))))) := by
        show _ = _
        rw [HR.out, HA.out, HBe.out k (by omega)]
      have HWd2 : Hid (∀ W, Below wr.heap.size wr W → (W.cell? ⟨tb, 2, none⟩ = some (.string tq) ∧ W.cell? ⟨tb, 3, none⟩ = some (.int .i64 si) ∧ W.cell? ⟨tb, 4, none⟩ = some (.int .i64 un)) ∧ (W.cell? ⟨cb, 2, none⟩ = some (.string cq) ∧ W.cell? ⟨cb, 3, none⟩ = some (.int .i64 ct)) ∧ Below B0 w W) := fun W hW => by
        have hb := HB.out.trans (hW.mono HB.out.size)
        obtain ⟨⟨_, _, y2, y3, y4⟩, _, _, x2, x3⟩ := HWd.out W hb
        exact ⟨⟨y2, y3, y4⟩, ⟨x2, x3⟩, HBB.out W hb⟩
      have HB9 : Hid (Below B0 w wr) := HBB.out wr HB.out
      clear HR HA HBe HTx HWd HBB HB HM HZf HB0 HBw
      cases b with
      | false =>
        go_wp2_with (first
          | (go_at_call 123; first
              | (refine (HT1.out _).mono ?_; clear HT1; rintro e w5 ⟨rfl, hb5⟩; obtain ⟨⟨u2, u3, u4⟩, ⟨t2, t3⟩, hb9⟩ := HWd2.out w5 hb5; have HB5 := hid hb5; clear hb5)
              | (refine (HT2.out _).mono ?_; clear HT2; rintro e w6 ⟨rfl, hb6⟩; obtain ⟨⟨v2, v3, v4⟩, ⟨s2, s3⟩, hb8⟩ := HWd2.out w6 (HB5.out.trans (hb6.mono HB5.out.size)))))
        go_ret
        exact ⟨by rw [HR2.out]; simp [*], HB9.out⟩
      | true =>
        by_cases g1 : 0 ≤ z1
        · have d1 : decide (z1 < 0) = false := decide_eq_false (by omega)
          by_cases g2 : tq = ⟨#[]⟩
          · subst g2
            have g2s : (⟨#[]⟩ : ByteArray).size = 0 := rfl
            by_cases g3 : si ≤ ct
            · have d3 := decide_eq_true g3
              by_cases g4 : un = 0
              · have d4 := decide_eq_true g4
                go_wp2_with (first
                  | (go_at_call 123; first
                      | (refine (HT1.out _).mono ?_; clear HT1; rintro e w5 ⟨rfl, hb5⟩; obtain ⟨⟨u2, u3, u4⟩, ⟨t2, t3⟩, hb9⟩ := HWd2.out w5 hb5; have HB5 := hid hb5; clear hb5)
                      | (refine (HT2.out _).mono ?_; clear HT2; rintro e w6 ⟨rfl, hb6⟩; obtain ⟨⟨v2, v3, v4⟩, ⟨s2, s3⟩, hb8⟩ := HWd2.out w6 (HB5.out.trans (hb6.mono HB5.out.size)))))
                go_ret
                exact ⟨by rw [HR2.out]; simp [*], hb9⟩
              · have d4 := decide_eq_false g4
                by_cases g5 : ct < un
                · have d5 := decide_eq_true g5
                  go_wp2_with (first
                    | (go_at_call 123; first
                        | (refine (HT1.out _).mono ?_; clear HT1; rintro e w5 ⟨rfl, hb5⟩; obtain ⟨⟨u2, u3, u4⟩, ⟨t2, t3⟩, hb9⟩ := HWd2.out w5 hb5; have HB5 := hid hb5; clear hb5)
                        | (refine (HT2.out _).mono ?_; clear HT2; rintro e w6 ⟨rfl, hb6⟩; obtain ⟨⟨v2, v3, v4⟩, ⟨s2, s3⟩, hb8⟩ := HWd2.out w6 (HB5.out.trans (hb6.mono HB5.out.size)))))
                  go_ret
                  exact ⟨by rw [HR2.out]; simp [*], hb9⟩
                · have d5 := decide_eq_false g5
                  go_wp2_with (first
                    | (go_at_call 123; first
                        | (refine (HT1.out _).mono ?_; clear HT1; rintro e w5 ⟨rfl, hb5⟩; obtain ⟨⟨u2, u3, u4⟩, ⟨t2, t3⟩, hb9⟩ := HWd2.out w5 hb5; have HB5 := hid hb5; clear hb5)
                        | (refine (HT2.out _).mono ?_; clear HT2; rintro e w6 ⟨rfl, hb6⟩; obtain ⟨⟨v2, v3, v4⟩, ⟨s2, s3⟩, hb8⟩ := HWd2.out w6 (HB5.out.trans (hb6.mono HB5.out.size)))))
                  go_ret
                  exact ⟨by rw [HR2.out]; simp [*], hb9⟩
            · have d3 := decide_eq_false g3
              go_wp2_with (first
                | (go_at_call 123; first
                    | (refine (HT1.out _).mono ?_; clear HT1; rintro e w5 ⟨rfl, hb5⟩; obtain ⟨⟨u2, u3, u4⟩, ⟨t2, t3⟩, hb9⟩ := HWd2.out w5 hb5; have HB5 := hid hb5; clear hb5)
                    | (refine (HT2.out _).mono ?_; clear HT2; rintro e w6 ⟨rfl, hb6⟩; obtain ⟨⟨v2, v3, v4⟩, ⟨s2, s3⟩, hb8⟩ := HWd2.out w6 (HB5.out.trans (hb6.mono HB5.out.size)))))
              go_ret
              exact ⟨by rw [HR2.out]; simp [*], hb9⟩
          · have g2n : tq.toList.isEmpty = false := txt_full g2
            have g2s : ¬ tq.size = 0 := fun e => g2 (by obtain ⟨⟨l⟩⟩ := tq; cases l with | nil => rfl | cons a t => cases e)
            by_cases g6 : z2 < 0
            · have d6 := decide_eq_true g6
              by_cases g3 : si ≤ ct
              · have d3 := decide_eq_true g3
                by_cases g4 : un = 0
                · have d4 := decide_eq_true g4
                  go_wp2_with (first
                    | (go_at_call 123; first
                        | (refine (HT1.out _).mono ?_; clear HT1; rintro e w5 ⟨rfl, hb5⟩; obtain ⟨⟨u2, u3, u4⟩, ⟨t2, t3⟩, hb9⟩ := HWd2.out w5 hb5; have HB5 := hid hb5; clear hb5)
                        | (refine (HT2.out _).mono ?_; clear HT2; rintro e w6 ⟨rfl, hb6⟩; obtain ⟨⟨v2, v3, v4⟩, ⟨s2, s3⟩, hb8⟩ := HWd2.out w6 (HB5.out.trans (hb6.mono HB5.out.size)))))
                  go_ret
                  exact ⟨by rw [HR2.out]; simp [*], hb8⟩
                · have d4 := decide_eq_false g4
                  by_cases g5 : ct < un
                  · have d5 := decide_eq_true g5
                    go_wp2_with (first
                      | (go_at_call 123; first
                          | (refine (HT1.out _).mono ?_; clear HT1; rintro e w5 ⟨rfl, hb5⟩; obtain ⟨⟨u2, u3, u4⟩, ⟨t2, t3⟩, hb9⟩ := HWd2.out w5 hb5; have HB5 := hid hb5; clear hb5)
                          | (refine (HT2.out _).mono ?_; clear HT2; rintro e w6 ⟨rfl, hb6⟩; obtain ⟨⟨v2, v3, v4⟩, ⟨s2, s3⟩, hb8⟩ := HWd2.out w6 (HB5.out.trans (hb6.mono HB5.out.size)))))
                    go_ret
                    exact ⟨by rw [HR2.out]; simp [*], hb8⟩
                  · have d5 := decide_eq_false g5
                    go_wp2_with (first
                      | (go_at_call 123; first
                          | (refine (HT1.out _).mono ?_; clear HT1; rintro e w5 ⟨rfl, hb5⟩; obtain ⟨⟨u2, u3, u4⟩, ⟨t2, t3⟩, hb9⟩ := HWd2.out w5 hb5; have HB5 := hid hb5; clear hb5)
                          | (refine (HT2.out _).mono ?_; clear HT2; rintro e w6 ⟨rfl, hb6⟩; obtain ⟨⟨v2, v3, v4⟩, ⟨s2, s3⟩, hb8⟩ := HWd2.out w6 (HB5.out.trans (hb6.mono HB5.out.size)))))
                    go_ret
                    exact ⟨by rw [HR2.out]; simp [*], hb8⟩
              · have d3 := decide_eq_false g3
                go_wp2_with (first
                  | (go_at_call 123; first
                      | (refine (HT1.out _).mono ?_; clear HT1; rintro e w5 ⟨rfl, hb5⟩; obtain ⟨⟨u2, u3, u4⟩, ⟨t2, t3⟩, hb9⟩ := HWd2.out w5 hb5; have HB5 := hid hb5; clear hb5)
                      | (refine (HT2.out _).mono ?_; clear HT2; rintro e w6 ⟨rfl, hb6⟩; obtain ⟨⟨v2, v3, v4⟩, ⟨s2, s3⟩, hb8⟩ := HWd2.out w6 (HB5.out.trans (hb6.mono HB5.out.size)))))
                go_ret
                exact ⟨by rw [HR2.out]; simp [*], hb8⟩
            · have d6 := decide_eq_false g6
              go_wp2_with (first
                | (go_at_call 123; first
                    | (refine (HT1.out _).mono ?_; clear HT1; rintro e w5 ⟨rfl, hb5⟩; obtain ⟨⟨u2, u3, u4⟩, ⟨t2, t3⟩, hb9⟩ := HWd2.out w5 hb5; have HB5 := hid hb5; clear hb5)
                    | (refine (HT2.out _).mono ?_; clear HT2; rintro e w6 ⟨rfl, hb6⟩; obtain ⟨⟨v2, v3, v4⟩, ⟨s2, s3⟩, hb8⟩ := HWd2.out w6 (HB5.out.trans (hb6.mono HB5.out.size)))))
              go_ret
              exact ⟨by rw [HR2.out]; simp [*], hb8⟩
        · have d1 : decide (z1 < 0) = true := decide_eq_true (by omega)
          go_wp2_with (first
            | (go_at_call 123; first
                | (refine (HT1.out _).mono ?_; clear HT1; rintro e w5 ⟨rfl, hb5⟩; obtain ⟨⟨u2, u3, u4⟩, ⟨t2, t3⟩, hb9⟩ := HWd2.out w5 hb5; have HB5 := hid hb5; clear hb5)
                | (refine (HT2.out _).mono ?_; clear HT2; rintro e w6 ⟨rfl, hb6⟩; obtain ⟨⟨v2, v3, v4⟩, ⟨s2, s3⟩, hb8⟩ := HWd2.out w6 (HB5.out.trans (hb6.mono HB5.out.size)))))
          go_ret
          exact ⟨by rw [HR2.out]; simp [*], hb9⟩
end Go.Proofs.YtgfkobfkncpmoaaDoor
