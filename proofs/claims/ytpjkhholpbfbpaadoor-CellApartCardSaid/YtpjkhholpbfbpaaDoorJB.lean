/- The statement of layer 6: with one version less, what is seen is among what is seen with it. Conditions: the arguments stand, their numbers are of 64 bits; the tables of utf8 read as they are laid. -/
import Derived.Test.YtpjkhholpbfbpaaDoorIE
import Derived.Test.YtpjkhholpbfbpaaDoorJA
import Derived.Deep.QuietTactic
namespace Go.Proofs.YtpjkhholpbfbpaaDoor
open Go.RowKit

deriving instance DecidableEq for CT
theorem ba_ne2 {x y : ByteArray} (h : x ≠ y) : ¬ x.toList = y.toList := fun e => by
  have := ba_ne h
  rw [e] at this
  simp at this

set_option maxHeartbeats 4000000 in
set_option maxRecDepth 100000 in
theorem cellless_any (v : Value) (l : List CT) (ver life now : Int) (w : World) (h : ClA w v l) (hv : ∀ c ∈ l, inI c.vn) (hL : LaidU w) :
    Calls Tryd.prog 9 #[v, .int .i64 ver, .int .i64 life, .int .i64 now] w fun e w' => e = .returned (.bool true) ∧ Below w.heap.size w w' := by
  have mixed : Tryd.prog.follows .mixedOrders = true := by kernel_rfl
  have HA := hid (alive_any w hL)
  have HLg : Hid (∀ W, Below w.heap.size w W → Calls Tryd.prog 21 #[v] W fun e w' => e = .returned (.bool (longC l)) ∧ Below W.heap.size W w') := fun W hb => long_any v l W (h.below hb)
  by_cases hg : longC l = false ∧ 1 ≤ ver ∧ ver ≤ 7
  · obtain ⟨hg, hv1, hv7⟩ := hg
    rw [hg] at HLg
    have g1 : ¬ ver < 1 := by omega
    have g7 : ¬ 7 < ver := by omega
    have hwv : IntKind.i64.wrap (ver + 1) = ver + 1 := by rw [IntKind.wrap_i64]; omega
    have HS : Hid (∀ (x : Int) (W : World), Below w.heap.size w W → Calls Tryd.prog 27 #[v, .int .i64 x, .int .i64 life, .int .i64 now] W fun e w' => ∃ v' s, e = .returned v' ∧ CRow w' W.heap.size v' (seenL x life now s) ∧ Hid (SortOf l s ∧ (seenL x life now s).length ≤ 100000) ∧ Below W.heap.size W w') := fun x W hb => (cseen_any v l (longC_ok hg hv).1 x life now W (h.below hb) (longC_ok hg hv).2 (hL.below hb)).mono fun _ _ ⟨v', s, h1, h2, h3, h4⟩ => ⟨v', s, h1, h3, ⟨h2, Nat.le_trans (seenL_len x life now s) (Nat.le_trans h2.len (longC_ok hg hv).1)⟩, h4⟩
    have HLe : Hid (∀ s t, SortOf l s → SortOf l t → subM (seenL ver life now s) (seenL (ver + 1) life now t) = true ∧ (seenL (ver + 1) life now t).length ≤ 2 * (seenL ver life now s).length) := fun s t h1 h2 => by
      rw [h2.uniq h1]
      have := less_all ver life now hv1 hv7 s
      exact ⟨subM_of _ _ this.1, this.2⟩
    clear h hv hL hg hv1 hv7
    go_enter Tryd.func9, Tryd.ntmps9
    go_wp2_with (first
      | (go_at_call 20; refine HA.out.mono ?_; rintro e w5 ⟨rfl, hb5⟩)
      | (go_at_call 21; refine (HLg.out _ hb5).mono ?_; rintro e w6 ⟨rfl, hb6⟩; have BW := hid (hb5.trans (hb6.mono hb5.size)))
      | (go_at_call 27; refine (HS.out _ _ BW7.out).mono ?_; rintro e w8 ⟨v8, s8, rfl, hr8, hq8, hb8⟩; have HF := hid (HLe.out _ _ hq7.out.1 hq8.out.1); have hlu := hq7.out.2; have hlt := hq8.out.2; have K7 := hid (hr7.cla.below hb8); have K8 := hid hr8.cla; have BW8 := hid (BW7.out.trans (hb8.mono BW7.out.size)); obtain ⟨u, hu⟩ : ∃ u, seenL ver life now s7 = u := ⟨_, rfl⟩; rw [hu] at HF K7 hlu; obtain ⟨t, ht⟩ : ∃ t, seenL (ver + 1) life now s8 = t := ⟨_, rfl⟩; rw [ht] at HF K8 hlt; clear hu ht hr7 hr8 hq7 hq8 hb8; obtain ⟨A7, c7, rfl, hc7, hm7, hh7⟩ := K7.out; obtain ⟨A8, c8, rfl, hc8, hm8, hh8⟩ := K8.out; have H7 := hid hh7; have H8 := hid hh8; clear hh7 hh8 K7 K8; obtain ⟨ma, hma⟩ : ∃ ma, u.length = ma := ⟨_, rfl⟩; have HMa := hid hma; rw [hma] at hc7 hlu ⊢; obtain ⟨mb, hmb⟩ : ∃ mb, t.length = mb := ⟨_, rfl⟩; have HMb := hid hmb; rw [hmb] at hc8 hlt ⊢; clear hma hmb)
      | (go_at_call 27; refine (HS.out _ _ BW.out).mono ?_; rintro e w7 ⟨v7, s7, rfl, hr7, hq7, hb7⟩; have BW7 := hid (BW.out.trans (hb7.mono BW.out.size))))
    all_goals first
      | (go_ret; exact ⟨rfl, BW.out⟩)
      | skip
    have hle : mb ≤ 2 * ma := by have := HF.out.2; rw [HMa.out, HMb.out] at this; exact this
    clear HA HLg HS HLe
    go_loopw [11, 12] (fun vk vi wr => Hid (Below w8.heap.size w8 wr) ∧ ∃ i k : Nat, i ≤ ma ∧ k ≤ mb ∧ vk = .int .i64 k ∧ vi = .int .i64 i ∧ Hid (subM (u.drop i) (t.drop k) = true)) (fun _ vi _ => ma - (intOf vi).toNat)
    case atStart => exact ⟨Below.refl _ _, 0, 0, Nat.zero_le _, Nat.zero_le _, rfl, rfl, HF.out.1⟩
    case round =>
      obtain ⟨HB, i, k, hi, hk, rfl, rfl, HU⟩ := hrel
      by_cases hlt2 : i < ma
      · have him : i < u.length := by rw [HMa.out]; exact hlt2
        have hiz : (i : Int) < (ma : Int) := by omega
        obtain ⟨b, off, rfl, hhc⟩ := H7.out (by rw [HMa.out]; omega)
        have hbw : b < w8.heap.size := hhc.lt (by omega)
        obtain ⟨c, hc⟩ : ∃ c, u[i] = c := ⟨_, rfl⟩
        have HP : Hid (∀ W, Below w8.heap.size w8 W → W.cell? ⟨b, off + i * 8, none⟩ = some (.string c.r) ∧ W.cell? ⟨b, off + i * 8 + 1, none⟩ = some (.string c.f) ∧ W.cell? ⟨b, off + i * 8 + 2, none⟩ = some (.string c.q) ∧ W.cell? ⟨b, off + i * 8 + 3, none⟩ = some (.int .i64 c.t) ∧ W.cell? ⟨b, off + i * 8 + 4, none⟩ = some (.int .i64 c.k) ∧ W.cell? ⟨b, off + i * 8 + 5, none⟩ = some (.int .i64 c.vk) ∧ W.cell? ⟨b, off + i * 8 + 6, none⟩ = some (.int .i64 c.vn) ∧ W.cell? ⟨b, off + i * 8 + 7, none⟩ = some (.string c.s)) := fun W hW => by
          rw [← hc]
          exact (hhc.below hW hbw).words i him
        have HU0 : Hid (subM (c :: u.drop (i + 1)) (t.drop k) = true) := by
          unfold Hid
          rw [← hc, ← List.drop_eq_getElem_cons him]
          exact HU.out
        clear hc hhc HU
        go_wp2
        go_loopw [11] (fun vk wr => Hid (Below w8.heap.size w8 wr) ∧ ∃ k : Nat, k ≤ mb ∧ vk = .int .i64 k ∧ Hid (subM (c :: u.drop (i + 1)) (t.drop k) = true)) (fun vk _ => mb - (intOf vk).toNat)
        case atStart => exact ⟨HB.out, k, hk, rfl, HU0.out⟩
        case round =>
          obtain ⟨HB, k, hk, rfl, HU⟩ := hrel
          have hkm : k < mb := by
            false_or_by_contra
            rename_i q
            have h0 := HU.out
            rw [show t.drop k = [] from List.drop_of_length_le (by rw [HMb.out]; omega)] at h0
            have h1 : false = true := h0
            cases h1
          have hkt : k < t.length := by rw [HMb.out]; exact hkm
          have hkz : (k : Int) < (mb : Int) := by omega
          have hkne : ((k : Int) == (mb : Int)) = false := by simp; omega
          obtain ⟨b8, off8, rfl, hhd⟩ := H8.out (by rw [HMb.out]; omega)
          have hbw8 : b8 < w8.heap.size := hhd.lt (by omega)
          obtain ⟨d, hd⟩ : ∃ d, t[k] = d := ⟨_, rfl⟩
          have Pd : wr.cell? ⟨b8, off8 + k * 8, none⟩ = some (.string d.r) ∧ wr.cell? ⟨b8, off8 + k * 8 + 1, none⟩ = some (.string d.f) ∧ wr.cell? ⟨b8, off8 + k * 8 + 2, none⟩ = some (.string d.q) ∧ wr.cell? ⟨b8, off8 + k * 8 + 3, none⟩ = some (.int .i64 d.t) ∧ wr.cell? ⟨b8, off8 + k * 8 + 4, none⟩ = some (.int .i64 d.k) ∧ wr.cell? ⟨b8, off8 + k * 8 + 5, none⟩ = some (.int .i64 d.vk) ∧ wr.cell? ⟨b8, off8 + k * 8 + 6, none⟩ = some (.int .i64 d.vn) ∧ wr.cell? ⟨b8, off8 + k * 8 + 7, none⟩ = some (.string d.s) := by
            rw [← hd]
            exact (hhd.below HB.out hbw8).words k hkt
          have HU1 : Hid ((if d = c then subM (u.drop (i + 1)) (t.drop (k + 1)) else subM (c :: u.drop (i + 1)) (t.drop (k + 1))) = true) := by
            have := HU.out
            rw [List.drop_eq_getElem_cons hkt, hd] at this
            exact this
          obtain ⟨p0, p1, p2, p3, p4, p5, p6, p7⟩ := HP.out wr HB.out
          obtain ⟨d0, d1, d2, d3, d4, d5, d6, d7⟩ := Pd
          clear hd hhd HU
          by_cases he : d = c
          · have HU2 : Hid (subM (u.drop (i + 1)) (t.drop (k + 1)) = true) := by
              have := HU1.out
              rwa [if_pos he] at this
            subst he
            go_upto_region 11 with (fail)
            go_quiet (fail)
            go_wp2
            go_roundw
            case rel => exact ⟨below_drewN HB.out _, i + 1, k + 1, by omega, by omega, by go_num, by go_num, HU2.out⟩
            case measure => simp [intOf]; omega
          · have HU2 : Hid (subM (c :: u.drop (i + 1)) (t.drop (k + 1)) = true) := by
              have := HU1.out
              rwa [if_neg he] at this
            by_cases e0 : d.r = c.r
            · have n0 : d.r.toList = c.r.toList := by rw [e0]
              by_cases e1 : d.f = c.f
              · have n1 : d.f.toList = c.f.toList := by rw [e1]
                by_cases e2 : d.q = c.q
                · have n2 : d.q.toList = c.q.toList := by rw [e2]
                  by_cases e3 : d.t = c.t
                  · have n3 : d.t = c.t := e3
                    by_cases e4 : d.k = c.k
                    · have n4 : d.k = c.k := e4
                      by_cases e5 : d.vk = c.vk
                      · have n5 : d.vk = c.vk := e5
                        by_cases e6 : d.vn = c.vn
                        · have n6 : d.vn = c.vn := e6
                          by_cases e7 : d.s = c.s
                          · have n7 : d.s.toList = c.s.toList := by rw [e7]
                            exfalso
                            apply he
                            cases d; cases c; simp only at e0 e1 e2 e3 e4 e5 e6 e7; subst e0 e1 e2 e3 e4 e5 e6 e7; rfl
                          · have n7 : ¬ d.s.toList = c.s.toList := ba_ne2 e7
                            clear he e0 e1 e2 e3 e4 e5 e6 e7
                            go_upto_region 11 with (fail)
                            go_quiet (fail)
                            go_wp2
                            go_roundw
                            case rel => exact ⟨below_drewN HB.out _, k + 1, by omega, by go_num, HU2.out⟩
                            case measure => simp [intOf]; omega
                        · have n6 : ¬ d.vn = c.vn := e6
                          clear he e0 e1 e2 e3 e4 e5 e6
                          go_upto_region 11 with (fail)
                          go_quiet (fail)
                          go_wp2
                          go_roundw
                          case rel => exact ⟨below_drewN HB.out _, k + 1, by omega, by go_num, HU2.out⟩
                          case measure => simp [intOf]; omega
                      · have n5 : ¬ d.vk = c.vk := e5
                        clear he e0 e1 e2 e3 e4 e5
                        go_upto_region 11 with (fail)
                        go_quiet (fail)
                        go_wp2
                        go_roundw
                        case rel => exact ⟨below_drewN HB.out _, k + 1, by omega, by go_num, HU2.out⟩
                        case measure => simp [intOf]; omega
                    · have n4 : ¬ d.k = c.k := e4
                      clear he e0 e1 e2 e3 e4
                      go_upto_region 11 with (fail)
                      go_quiet (fail)
                      go_wp2
                      go_roundw
                      case rel => exact ⟨below_drewN HB.out _, k + 1, by omega, by go_num, HU2.out⟩
                      case measure => simp [intOf]; omega
                  · have n3 : ¬ d.t = c.t := e3
                    clear he e0 e1 e2 e3
                    go_upto_region 11 with (fail)
                    go_quiet (fail)
                    go_wp2
                    go_roundw
                    case rel => exact ⟨below_drewN HB.out _, k + 1, by omega, by go_num, HU2.out⟩
                    case measure => simp [intOf]; omega
                · have n2 : ¬ d.q.toList = c.q.toList := ba_ne2 e2
                  clear he e0 e1 e2
                  go_upto_region 11 with (fail)
                  go_quiet (fail)
                  go_wp2
                  go_roundw
                  case rel => exact ⟨below_drewN HB.out _, k + 1, by omega, by go_num, HU2.out⟩
                  case measure => simp [intOf]; omega
              · have n1 : ¬ d.f.toList = c.f.toList := ba_ne2 e1
                clear he e0 e1
                go_upto_region 11 with (fail)
                go_quiet (fail)
                go_wp2
                go_roundw
                case rel => exact ⟨below_drewN HB.out _, k + 1, by omega, by go_num, HU2.out⟩
                case measure => simp [intOf]; omega
            · have n0 : ¬ d.r.toList = c.r.toList := ba_ne2 e0
              clear he e0
              go_upto_region 11 with (fail)
              go_quiet (fail)
              go_wp2
              go_roundw
              case rel => exact ⟨below_drewN HB.out _, k + 1, by omega, by go_num, HU2.out⟩
              case measure => simp [intOf]; omega
      · obtain rfl : i = ma := by omega
        have hlz : (mb : Int) ≤ 2 * (i : Int) := by omega
        have hw2 : IntKind.i64.wrap (2 * (i : Int)) = 2 * (i : Int) := by rw [IntKind.wrap_i64]; omega
        go_wp2
        go_ret
        exact ⟨rfl, BW8.out.trans (HB.out.mono BW8.out.size)⟩
  · cases e : longC l with
    | true =>
      rw [e] at HLg
      clear e hg
      clear h hv hL
      go_enter Tryd.func9, Tryd.ntmps9
      go_wp2_with (first | (go_at_call 20; refine HA.out.mono ?_; rintro e w5 ⟨rfl, hb5⟩) | (go_at_call 21; refine (HLg.out _ hb5).mono ?_; rintro e w6 ⟨rfl, hb6⟩; have BW := hid (hb5.trans (hb6.mono hb5.size))))
      all_goals (go_ret; exact ⟨rfl, BW.out⟩)
    | false =>
      rw [e] at HLg
      by_cases g1 : ver < 1
      · clear e hg
        clear h hv hL
        go_enter Tryd.func9, Tryd.ntmps9
        go_wp2_with (first | (go_at_call 20; refine HA.out.mono ?_; rintro e w5 ⟨rfl, hb5⟩) | (go_at_call 21; refine (HLg.out _ hb5).mono ?_; rintro e w6 ⟨rfl, hb6⟩; have BW := hid (hb5.trans (hb6.mono hb5.size))))
        all_goals (go_ret; exact ⟨rfl, BW.out⟩)
      · have g7 : 7 < ver := by
          false_or_by_contra
          rename_i q
          exact hg ⟨e, by omega, by omega⟩
        clear e hg
        clear h hv hL
        go_enter Tryd.func9, Tryd.ntmps9
        go_wp2_with (first | (go_at_call 20; refine HA.out.mono ?_; rintro e w5 ⟨rfl, hb5⟩) | (go_at_call 21; refine (HLg.out _ hb5).mono ?_; rintro e w6 ⟨rfl, hb6⟩; have BW := hid (hb5.trans (hb6.mono hb5.size))))
        all_goals (go_ret; exact ⟨rfl, BW.out⟩)
end Go.Proofs.YtpjkhholpbfbpaaDoor
