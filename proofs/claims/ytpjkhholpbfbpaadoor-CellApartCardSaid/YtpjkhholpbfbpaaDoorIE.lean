/- The statement of layer 6: no column has more than so many versions to be seen. Conditions: the arguments stand, their numbers are of 64 bits; the tables of utf8 read as they are laid. -/
import Derived.Test.YtpjkhholpbfbpaaDoorIC
import Derived.Test.YtpjkhholpbfbpaaDoorID
import Derived.Deep.QuietTactic
namespace Go.Proofs.YtpjkhholpbfbpaaDoor
open Go.RowKit

set_option maxHeartbeats 1000000 in
theorem long_any (v : Value) (l : List CT) (w : World) (h : ClA w v l) :
    Calls Tryd.prog 21 #[v] w fun e w' => e = .returned (.bool (longC l)) ∧ Below w.heap.size w w' := by
  have HL := hid (longcells_any v l w h)
  clear h
  go_enter Tryd.func21, Tryd.ntmps21
  go_wp2_with (go_at_call 48; refine HL.out.mono ?_; rintro e w5 ⟨rfl, hb5⟩)
  go_ret
  exact ⟨rfl, hb5⟩
theorem longC_ok {l : List CT} (h : longC l = false) (hv : ∀ c ∈ l, inI c.vn) : l.length ≤ 100000 ∧ ∀ c ∈ l, okC c := by
  unfold longC at h
  rw [Bool.or_eq_false_iff] at h
  obtain ⟨h1, h2⟩ := h
  have h1 := of_decide_eq_false h1
  refine ⟨by omega, fun c hc => ?_⟩
  have h3 : longC1 c = false := by
    cases e : longC1 c with
    | false => rfl
    | true =>
      rw [List.any_eq_true.2 ⟨c, hc, e⟩] at h2
      cases h2
  unfold longC1 at h3
  simp only [Bool.or_eq_false_iff, decide_eq_false_iff_not] at h3
  exact ⟨by omega, by omega, hv c hc⟩

set_option maxHeartbeats 4000000 in
set_option maxRecDepth 100000 in
theorem cellfew_any (v : Value) (l : List CT) (ver life now : Int) (w : World) (h : ClA w v l) (hv : ∀ c ∈ l, inI c.vn) (hL : LaidU w) :
    Calls Tryd.prog 7 #[v, .int .i64 ver, .int .i64 life, .int .i64 now] w fun e w' => e = .returned (.bool true) ∧ Below w.heap.size w w' := by
  have mixed : Tryd.prog.follows .mixedOrders = true := by kernel_rfl
  have HA := hid (alive_any w hL)
  have HLg : Hid (∀ W, Below w.heap.size w W → Calls Tryd.prog 21 #[v] W fun e w' => e = .returned (.bool (longC l)) ∧ Below W.heap.size W w') := fun W hb => long_any v l W (h.below hb)
  cases hg : longC l with
  | true =>
    rw [hg] at HLg
    clear h hv hL hg
    go_enter Tryd.func7, Tryd.ntmps7
    go_wp2_with (first | (go_at_call 20; refine HA.out.mono ?_; rintro e w5 ⟨rfl, hb5⟩) | (go_at_call 21; refine (HLg.out _ hb5).mono ?_; rintro e w6 ⟨rfl, hb6⟩))
    go_ret
    exact ⟨rfl, hb5.trans (hb6.mono hb5.size)⟩
  | false =>
    rw [hg] at HLg
    have HS : Hid (∀ W, Below w.heap.size w W → Calls Tryd.prog 27 #[v, .int .i64 ver, .int .i64 life, .int .i64 now] W fun e w' => ∃ v' u, e = .returned v' ∧ CRow w' W.heap.size v' u ∧ Hid (fewM ver none 0 u = true ∧ u.length ≤ 100000) ∧ Below W.heap.size W w') := fun W hb => (cseen_any v l (longC_ok hg hv).1 ver life now W (h.below hb) (longC_ok hg hv).2 (hL.below hb)).mono fun _ _ ⟨v', s, h1, h2, h3, h4⟩ => ⟨v', _, h1, h3, ⟨few_all h2 ver life now, Nat.le_trans (seenL_len ver life now s) (Nat.le_trans h2.len (longC_ok hg hv).1)⟩, h4⟩
    clear h hv hL hg
    go_enter Tryd.func7, Tryd.ntmps7
    go_wp2_with (first | (go_at_call 20; refine HA.out.mono ?_; rintro e w5 ⟨rfl, hb5⟩) | (go_at_call 21; refine (HLg.out _ hb5).mono ?_; rintro e w6 ⟨rfl, hb6⟩) | (go_at_call 27; refine (HS.out _ (hb5.trans (hb6.mono hb5.size))).mono ?_; rintro e w7 ⟨v7, u, rfl, hr7, hF, hb7⟩; have K7 := hid hr7.cla; have BW := hid ((hb5.trans (hb6.mono hb5.size)).trans (hb7.mono (Nat.le_trans hb5.size hb6.size))); clear hr7; obtain ⟨A7, c7, rfl, hc7, hm7, hh7⟩ := K7.out; have HH := hid hh7; clear hh7 K7; obtain ⟨m, hm⟩ : ∃ m, u.length = m := ⟨_, rfl⟩; have HM := hid hm; rw [hm] at hc7 ⊢; clear hm))
    all_goals first
      | (go_ret; exact ⟨rfl, hb5.trans (hb6.mono hb5.size)⟩)
      | skip
    have hmL : m ≤ 100000 := by rw [← HM.out]; exact hF.out.2
    clear HA HLg HS
    go_loopw [10, 11] (fun vn vi wr => Hid (Below w7.heap.size w7 wr) ∧ ∃ (i : Nat) (n : Int) (p : Option CT), i ≤ m ∧ vn = .int .i64 n ∧ vi = .int .i64 i ∧ Hid (fewM ver p n (u.drop i) = true) ∧ ((i = 0 ∧ p = none) ∨ ∃ j, i = j + 1 ∧ Hid (∀ h : j < u.length, p = some u[j]))) (fun _ vi _ => m - (intOf vi).toNat)
    case atStart => exact ⟨Below.refl _ _, 0, 0, none, Nat.zero_le _, rfl, rfl, hF.out.1, .inl ⟨rfl, rfl⟩⟩
    case round =>
      obtain ⟨HB, i, n, p, hi, rfl, rfl, HF, hp⟩ := hrel
      by_cases hlt : i < m
      · have him : i < u.length := by rw [HM.out]; exact hlt
        obtain ⟨b, off, rfl, hhc⟩ := HH.out (by rw [HM.out]; omega)
        have hbw : b < w7.heap.size := hhc.lt (by omega)
        obtain ⟨c, hc⟩ : ∃ c, u[i] = c := ⟨_, rfl⟩
        have P : wr.cell? ⟨b, off + i * 8, none⟩ = some (.string c.r) ∧ wr.cell? ⟨b, off + i * 8 + 1, none⟩ = some (.string c.f) ∧ wr.cell? ⟨b, off + i * 8 + 2, none⟩ = some (.string c.q) ∧ wr.cell? ⟨b, off + i * 8 + 3, none⟩ = some (.int .i64 c.t) ∧ wr.cell? ⟨b, off + i * 8 + 4, none⟩ = some (.int .i64 c.k) ∧ wr.cell? ⟨b, off + i * 8 + 5, none⟩ = some (.int .i64 c.vk) ∧ wr.cell? ⟨b, off + i * 8 + 6, none⟩ = some (.int .i64 c.vn) ∧ wr.cell? ⟨b, off + i * 8 + 7, none⟩ = some (.string c.s) := by
          rw [← hc]
          exact (hhc.below HB.out hbw).words i him
        have HF0 : Hid (fewM ver p n (c :: u.drop (i + 1)) = true) := by
          unfold Hid
          rw [← hc, ← List.drop_eq_getElem_cons him]
          exact HF.out
        have hk : c.k = 1 := by
          false_or_by_contra
          rename_i q
          have := HF0.out
          unfold fewM at this
          rw [if_pos q] at this
          cases this
        have hk1 : (c.k != 1) = false := by simpa using hk
        rcases hp with ⟨rfl, rfl⟩ | ⟨j, rfl, hpj⟩
        · have HF2 : Hid (¬ ver < 1 ∧ fewM ver (some c) 1 (u.drop 1) = true) := by
            have hF := HF0.out
            unfold fewM at hF
            rw [if_neg (by omega)] at hF
            simp only at hF
            by_cases hv1 : ver < 1
            · rw [if_pos hv1] at hF; cases hF
            · rw [if_neg hv1] at hF; exact ⟨hv1, hF⟩
          have hv1 : ¬ ver < 1 := HF2.out.1
          have HCc : Hid (∀ h : 0 < u.length, some c = some u[0]) := fun h => by rw [hc]
          have hltz : (0 : Int) < (m : Int) := by omega
          rw [Nat.zero_mul, Nat.add_zero] at P
          obtain ⟨p0, p1, p2, p3, p4, p5, p6, p7⟩ := P
          clear hc hhc HF0 HF hk
          go_upto_region 12 with (fail)
          go_quiet (fail)
          go_wp2
          go_roundw
          case rel => exact ⟨below_drewN HB.out _, 1, 1, some c, by omega, rfl, by go_num, HF2.out.2, .inr ⟨0, rfl, HCc.out⟩⟩
          case measure => simp [intOf]; omega
        · have hju : j < u.length := by omega
          obtain ⟨d, hd⟩ : ∃ d, u[j] = d := ⟨_, rfl⟩
          have hpd := hpj.out hju
          rw [hd] at hpd
          subst hpd
          have Pd : wr.cell? ⟨b, off + j * 8, none⟩ = some (.string d.r) ∧ wr.cell? ⟨b, off + j * 8 + 1, none⟩ = some (.string d.f) ∧ wr.cell? ⟨b, off + j * 8 + 2, none⟩ = some (.string d.q) ∧ wr.cell? ⟨b, off + j * 8 + 3, none⟩ = some (.int .i64 d.t) ∧ wr.cell? ⟨b, off + j * 8 + 4, none⟩ = some (.int .i64 d.k) ∧ wr.cell? ⟨b, off + j * 8 + 5, none⟩ = some (.int .i64 d.vk) ∧ wr.cell? ⟨b, off + j * 8 + 6, none⟩ = some (.int .i64 d.vn) ∧ wr.cell? ⟨b, off + j * 8 + 7, none⟩ = some (.string d.s) := by
            rw [← hd]
            exact (hhc.below HB.out hbw).words j hju
          have HCc : Hid (∀ h : j + 1 < u.length, some c = some u[j + 1]) := fun h => by rw [hc]
          have HF : Hid ((if colC c d then (if d.t ≤ c.t then false else if ver < IntKind.i64.wrap (n + 1) then false else fewM ver (some c) (IntKind.i64.wrap (n + 1)) (u.drop (j + 1 + 1))) else if ver < 1 then false else fewM ver (some c) 1 (u.drop (j + 1 + 1))) = true) := by
            have hF := HF0.out
            unfold fewM at hF
            rw [if_neg (by omega)] at hF
            exact hF
          have hltz : (j : Int) + 1 < (m : Int) := by omega
          have hltp : (0 : Int) < (j : Int) + 1 := by omega
          have hge : (0 : Int) ≤ (j : Int) + 1 := by omega
          have htn : ((j : Int) + 1).toNat = j + 1 := by omega
          have hwj : IntKind.i64.wrap (j : Int) = (j : Int) := by rw [IntKind.wrap_i64]; omega
          have hwj1 : IntKind.i64.wrap ((j : Int) + 1 - 1) = (j : Int) := by rw [IntKind.wrap_i64]; omega
          have hjm : (j : Int) < (m : Int) := by omega
          obtain ⟨p0, p1, p2, p3, p4, p5, p6, p7⟩ := P
          obtain ⟨d0, d1, d2, d3, d4, d5, d6, d7⟩ := Pd
          clear hc hhc HF0 hk hd hpj
          by_cases h1 : c.r = d.r
          · have q1 : (c.r.toList == d.r.toList) = true := by rw [h1]; simp
            by_cases h2 : c.f = d.f
            · have q2 : (c.f.toList == d.f.toList) = true := by rw [h2]; simp
              by_cases h3 : c.q = d.q
              · have q3 : (c.q.toList == d.q.toList) = true := by rw [h3]; simp
                obtain ⟨x, hx⟩ : ∃ x, IntKind.i64.wrap (n + 1) = x := ⟨_, rfl⟩
                have HF2 : Hid (¬ d.t ≤ c.t ∧ ¬ ver < x ∧ fewM ver (some c) x (u.drop (j + 1 + 1)) = true) := by
                  have hF := HF.out
                  rw [if_pos ⟨h1, h2, h3⟩, hx] at hF
                  by_cases a1 : d.t ≤ c.t
                  · rw [if_pos a1] at hF; cases hF
                  · rw [if_neg a1] at hF
                    by_cases a2 : ver < x
                    · rw [if_pos a2] at hF; cases hF
                    · rw [if_neg a2] at hF; exact ⟨a1, a2, hF⟩
                have a1 : ¬ d.t ≤ c.t := HF2.out.1
                have a2 : ¬ ver < x := HF2.out.2.1
                clear h1 h2 h3
                go_upto_region 12 with (fail)
                go_quiet (fail)
                go_upto_region 14 with (fail)
                go_quiet (fail)
                go_wp2
                go_roundw
                case rel => exact ⟨below_drewN HB.out _, j + 1 + 1, x, some c, by omega, rfl, by go_num, HF2.out.2.2, .inr ⟨j + 1, rfl, HCc.out⟩⟩
                case measure => simp [intOf]; omega
              · have q3 : (c.q.toList == d.q.toList) = false := ba_ne h3
                have HF2 : Hid (¬ ver < 1 ∧ fewM ver (some c) 1 (u.drop (j + 1 + 1)) = true) := by
                  have hF := HF.out
                  rw [if_neg (fun h => h3 h.2.2)] at hF
                  by_cases hv1 : ver < 1
                  · rw [if_pos hv1] at hF; cases hF
                  · rw [if_neg hv1] at hF; exact ⟨hv1, hF⟩
                have hv1 : ¬ ver < 1 := HF2.out.1
                clear h1 h2 h3
                go_upto_region 12 with (fail)
                go_quiet (fail)
                go_wp2
                go_roundw
                case rel => exact ⟨below_drewN HB.out _, j + 1 + 1, 1, some c, by omega, rfl, by go_num, HF2.out.2, .inr ⟨j + 1, rfl, HCc.out⟩⟩
                case measure => simp [intOf]; omega
            · have q2 : (c.f.toList == d.f.toList) = false := ba_ne h2
              have HF2 : Hid (¬ ver < 1 ∧ fewM ver (some c) 1 (u.drop (j + 1 + 1)) = true) := by
                have hF := HF.out
                rw [if_neg (fun h => h2 h.2.1)] at hF
                by_cases hv1 : ver < 1
                · rw [if_pos hv1] at hF; cases hF
                · rw [if_neg hv1] at hF; exact ⟨hv1, hF⟩
              have hv1 : ¬ ver < 1 := HF2.out.1
              clear h1 h2
              go_upto_region 12 with (fail)
              go_quiet (fail)
              go_wp2
              go_roundw
              case rel => exact ⟨below_drewN HB.out _, j + 1 + 1, 1, some c, by omega, rfl, by go_num, HF2.out.2, .inr ⟨j + 1, rfl, HCc.out⟩⟩
              case measure => simp [intOf]; omega
          · have q1 : (c.r.toList == d.r.toList) = false := ba_ne h1
            have HF2 : Hid (¬ ver < 1 ∧ fewM ver (some c) 1 (u.drop (j + 1 + 1)) = true) := by
              have hF := HF.out
              rw [if_neg (fun h => h1 h.1)] at hF
              by_cases hv1 : ver < 1
              · rw [if_pos hv1] at hF; cases hF
              · rw [if_neg hv1] at hF; exact ⟨hv1, hF⟩
            have hv1 : ¬ ver < 1 := HF2.out.1
            clear h1
            go_upto_region 12 with (fail)
            go_quiet (fail)
            go_wp2
            go_roundw
            case rel => exact ⟨below_drewN HB.out _, j + 1 + 1, 1, some c, by omega, rfl, by go_num, HF2.out.2, .inr ⟨j + 1, rfl, HCc.out⟩⟩
            case measure => simp [intOf]; omega
      · obtain rfl : i = m := by omega
        go_wp2
        go_ret
        exact ⟨rfl, BW.out.trans (HB.out.mono BW.out.size)⟩
end Go.Proofs.YtpjkhholpbfbpaaDoor
