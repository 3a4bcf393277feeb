/- symMergeCmpFunc over cells, whatever the stretches. Conditions: the comparison is a strict weak order; the tags of the first stretch are below those of the second. -/
import Derived.Test.YtfcnobcpnhfgmaaDoorGD
namespace Go.Proofs.YtfcnobcpnhfgmaaDoor
open Go.Shelf Go.RowKit Go.Lib Go.Sort

variable {P : Program} {k : Nat} {α : Type} [Inhabited α]
section
omit [Inhabited α]
variable [Inhabited α]
theorem rot_id {s m e : Nat} (d : Array α) (h1 : s ≤ m) (h2 : m ≤ e) (h : ¬ (s < m ∧ m < e)) : RotR s m e d d := by
  refine ⟨rfl, fun lo hi _ _ _ => permIn_refl d lo hi, fun t ht => ?_, fun t ht => ?_, fun _ _ => rfl⟩
  · congr 1; omega
  · congr 1; omega
/-- What the search for the cut knows. -/
structure Lohi (a m b mid lo hi : Nat) : Prop where
  h1 : a ≤ lo
  h2 : lo ≤ hi
  h3 : hi ≤ m
  h4 : m + mid - lo ≤ b
  h5 : m + mid - hi ≥ m
  h6 : lo = a ∨ m + mid - lo = b
  h7 : hi = m ∨ hi = mid
theorem cut_of {lt : α → α → Bool} {tg : α → Nat} (h : SWO lt) {a m b mid lo hi s : Nat} {d : Array α} (hl : RS lt tg a m d) (hr : RS lt tg m b d) (hh : Lohi a m b mid lo hi) (h1 : lo ≤ s) (h2 : s ≤ hi)
    (q1 : ∀ c, lo ≤ c → c < s → lt d[m + mid - 1 - c]! d[c]! = false) (q2 : ∀ c, s ≤ c → c < hi → lt d[m + mid - 1 - c]! d[c]! = true) : Cut lt a m b s (m + mid - s) d := by
  obtain ⟨p1, p2, p3, p4, p5, p6, p7⟩ := hh
  refine ⟨by omega, by omega, by omega, by omega, fun x y hx hxs hy hyb => ?_, fun x y hx hxm hy hye => ?_⟩
  · rcases p6 with e | e
    · have hs : lo < s := by omega
      have k1 := q1 (s - 1) (by omega) (by omega)
      have k2 := RS.le h hl hx (show x ≤ s - 1 by omega) (by omega)
      have k3 := RS.le h hr (show m ≤ m + mid - 1 - (s - 1) by omega) (show m + mid - 1 - (s - 1) ≤ y by omega) hyb
      exact h.ntrans _ _ _ k3 (h.ntrans _ _ _ k1 k2)
    · by_cases hs : lo < s
      · have k1 := q1 (s - 1) (by omega) (by omega)
        have k2 := RS.le h hl hx (show x ≤ s - 1 by omega) (by omega)
        have k3 := RS.le h hr (show m ≤ m + mid - 1 - (s - 1) by omega) (show m + mid - 1 - (s - 1) ≤ y by omega) hyb
        exact h.ntrans _ _ _ k3 (h.ntrans _ _ _ k1 k2)
      · omega
  · by_cases hs : s < hi
    · have k1 := q2 s (Nat.le_refl _) hs
      have k2 := RS.le h hl (show a ≤ s by omega) hx hxm
      have k3 := RS.le h hr hy (show y ≤ m + mid - 1 - s by omega) (by omega)
      exact swo_le_lt h k3 (swo_lt_le h k1 k2)
    · omega
end

set_option maxHeartbeats 8000000 in
set_option maxRecDepth 1000000 in
theorem sm_all (L : SLP P k) (enc : α → List Value) (cf : α → α → Int) (tg : α → Nat) (g : Nat) (cb : Array Value) (blk off cap a m b : Nat) (d0 d : Array α) (w0 w : World)
    (eg : ∀ args w, (callFunc g args).run P w = .ok (.enter g args) w) (hcmp : CmpLays P g cb enc k cf blk off d0.size w0) (R : RowK enc k w0 blk off d0) (hs : d0.size = d.size) (S : SWK enc k w0 blk off d w) (hO : SWO (ltOf cf)) (hsz : d.size < 4611686018427387904)
    (hb : b ≤ d.size) (ham : a + 1 < m) (hmb : m + 1 < b) (hl : RS (ltOf cf) tg a m d) (hr : RS (ltOf cf) tg m b d) (ht : TL tg a m b d)
    (IH : ∀ (dk : Array α) (x y z : Nat) (wk : World), z - x < b - a → x < y → y < z → z ≤ d.size → dk.size = d.size → SWK enc k w0 blk off dk wk → RS (ltOf cf) tg x y dk → RS (ltOf cf) tg y z dk → TL tg x y z dk →
      Calls P 162 #[.slice (some ⟨blk, off, none⟩) d.size cap, .int .i64 x, .int .i64 y, .int .i64 z, .func (.func g) #[] cb] wk fun e w' => e = .returned (.tuple #[]) ∧ ∃ d', SWK enc k w0 blk off d' w' ∧ Mrg (ltOf cf) tg x z dk d') :
    Calls P 162 #[.slice (some ⟨blk, off, none⟩) d.size cap, .int .i64 (a : Int), .int .i64 (m : Int), .int .i64 (b : Int), .func (.func g) #[] cb] w fun e w' => e = .returned (.tuple #[]) ∧ ∃ d', SWK enc k w0 blk off d' w' ∧ Mrg (ltOf cf) tg a b d d' := by
  have mixed := L.mixed; have t0 := L.t0; have a0 := L.a0; have z0 := L.z0; have v0 := L.v0; have t3 := L.t3; have a3 := L.a3; have z3 := L.z3; have v3 := L.v3; have t4 := L.t4; have a4 := L.a4; have z4 := L.z4; have v4 := L.v4; have t22 := L.tS; have a22 := L.aS; have z22 := L.zS; have v22 := L.vS; have t25 := L.tF; have a25 := L.aF; have z25 := L.zF; have v25 := L.vF; have tU := L.tU; have aU := L.aU; have zU := L.zU; have vU := L.vU
  have FG := L.fm
  have HC : Aside _ := hcmp
  have S0 : Aside (SWK enc k w0 blk off d w) := S
  have HO : Aside (SWO (ltOf cf)) := hO
  clear hcmp S hO
  have HL : Hid (RS (ltOf cf) tg a m d) := hl
  have HRr : Hid (RS (ltOf cf) tg m b d) := hr
  have HT : Hid (TL tg a m b d) := ht
  have HIH : Aside _ := IH
  clear hl hr ht IH
  have hsub1 : ((m : Int) - (a : Int) == 1) = false := by simp; omega
  have hsub2 : ((b : Int) - (m : Int) == 1) = false := by simp; omega
  have eM : ∀ args w, (callFunc 162 args).run P w = .ok (.enter 162 args) w := enters_of L.fm (by kernel_rfl) rfl
  have eR : ∀ args w, (callFunc 177 args).run P w = .ok (.enter 177 args) w := enters_of L.fr (by kernel_rfl) rfl
  have HRot : Hid (∀ (wk : World) (s e : Nat), SWK enc k w0 blk off d wk → s < m → m < e → e ≤ d.size → Calls P 177 #[.slice (some ⟨blk, off, none⟩) d.size cap, .int .i64 s, .int .i64 m, .int .i64 e, .func (.func g) #[] cb] wk fun e' w' => e' = .returned (.tuple #[]) ∧ ∃ d', SWK enc k w0 blk off d' w' ∧ RotR s m e d d') := fun wk s e q1 q2 q3 q4 => rotate_any L enc g cb blk off cap s m e d0 d w0 wk R hs q1 q2 q3 q4 hsz
  obtain ⟨mid, hmid⟩ : ∃ mid, (a + b) / 2 = mid := ⟨_, rfl⟩
  have hwmid : ((a : Int) + (b : Int)) / 2 = (mid : Int) := by omega
  have hm1 : a < mid := by omega
  have hm2 : mid < b := by omega
  have hm3 : 2 * mid ≤ a + b := by omega
  have hm4 : a + b ≤ 2 * mid + 1 := by omega
  clear hmid
  have hnn : (mid : Int) + (m : Int) = ((m + mid : Nat) : Int) := by omega
  obtain ⟨n, hn⟩ : ∃ n, m + mid = n := ⟨_, rfl⟩
  rw [hn] at hnn
  have HN : Hid (m + mid = n) := hn
  have hn1 : n ≤ 9223372036854775807 := by omega
  have hn2 : 1 ≤ n := by omega
  have hp1 : (n : Int) - 1 = ((n - 1 : Nat) : Int) := by omega
  obtain ⟨p, hp⟩ : ∃ p, n - 1 = p := ⟨_, rfl⟩
  rw [hp] at hp1
  have HP : Hid (n - 1 = p) := hp
  have aE := L.aE; have zE := L.zE
  go_enter FG, Tryd.ntmps162
  go_upto_if 140 with (fail)
  go_cut [20, 21] from 138 to 146 (fun v20 v21 wx => ∃ lo hi : Nat, v20 = .int .i64 lo ∧ v21 = .int .i64 hi ∧ wx = w ∧ Hid (Lohi a m b mid lo hi))
  case first =>
    by_cases hc : mid < m
    · have hcz : (mid : Int) < (m : Int) := by omega
      have hnb : (n : Int) - (b : Int) = ((n - b : Nat) : Int) := by omega
      go_wp2
      go_meet
      case rel => exact ⟨n - b, mid, by first | rfl | (rw [← hnb]), rfl, rfl, ⟨by omega, by omega, by omega, by omega, by omega, by omega, by omega⟩⟩
    · have hcz : ¬ (mid : Int) < (m : Int) := by omega
      go_wp2
      go_meet
      case rel => exact ⟨a, m, rfl, rfl, rfl, ⟨by omega, by omega, by omega, by omega, by omega, by omega, by omega⟩⟩
  case rest =>
    obtain ⟨lo, hi, rfl, rfl, rfl, HLH⟩ := hcut
    have hloa : a ≤ lo := HLH.out.h1
    have hlohi : lo ≤ hi := HLH.out.h2
    have hhim : hi ≤ m := HLH.out.h3
    go_wp2
    go_loopg [20, 21] (hi - lo) (fun kx s20 s21 wr => ∃ (s r : Nat), s20 = .int .i64 s ∧ s21 = .int .i64 r ∧ lo ≤ s ∧ s ≤ r ∧ r ≤ hi ∧ r - s ≤ kx ∧ Aside (SWK enc k w0 blk off d wr) ∧ Hid ((∀ c, lo ≤ c → c < s → ltOf cf d[m + mid - 1 - c]! d[c]! = false) ∧ (∀ c, r ≤ c → c < hi → ltOf cf d[m + mid - 1 - c]! d[c]! = true)))
    case atStart => exact ⟨lo, hi, rfl, rfl, Nat.le_refl _, hlohi, Nat.le_refl _, Nat.le_refl _, S0, fun x h1 h2 => absurd h1 (by omega), fun x h1 h2 => absurd h1 (by omega)⟩
    case round =>
      clear S0
      obtain ⟨s, r, rfl, rfl, hls, hsr, hrh, hkx, S1, HI⟩ := hrel
      by_cases hlt : s < r
      · have hltz : (s : Int) < (r : Int) := by omega
        obtain ⟨c, hc⟩ : ∃ c, (s + r) / 2 = c := ⟨_, rfl⟩
        have hwc : ((s : Int) + (r : Int)) / 2 = (c : Int) := by omega
        have hsc : s ≤ c := by omega
        have hcr : c < r := by omega
        clear hc
        have hq4 : m ≤ m + mid - 1 - c ∧ m + mid - 1 - c < b := by have := HLH.out.h4; have := HLH.out.h5; omega
        obtain ⟨q, hqq⟩ : ∃ q, m + mid - 1 - c = q := ⟨_, rfl⟩
        have hpc : (p : Int) - (c : Int) = (q : Int) := by have := HN.out; have := HP.out; omega
        have HQQ : Hid (m + mid - 1 - c = q) := hqq
        rw [hqq] at hq4
        obtain ⟨hmq, hqb⟩ := hq4
        clear hqq
        cases hq : ltOf cf d[q]! d[c]! with
        | false =>
          have HQ : Hid (ltOf cf d[q]! d[c]! = false) := hq
          have ea1x : ((q : Int)).toNat = q := by omega
          have pa1x : (0 : Int) ≤ (q : Int) := by omega
          have ba1x : (q : Int) < (d.size : Int) := by omega
          have ra1x : IntKind.i64.wrap ((q : Int)) = (q : Int) := by rw [IntKind.wrap_i64]; omega
          have ea1y : ((c : Int)).toNat = c := by omega
          have pa1y : (0 : Int) ≤ (c : Int) := by omega
          have ba1y : (c : Int) < (d.size : Int) := by omega
          have ra1y : IntKind.i64.wrap ((c : Int)) = (c : Int) := by rw [IntKind.wrap_i64]; omega
          obtain ⟨x1, hx1⟩ : ∃ x, x = d[q]! := ⟨_, rfl⟩
          obtain ⟨y1, hy1⟩ : ∃ x, x = d[c]! := ⟨_, rfl⟩
          have l1a := S1.out.ld R (by omega) P (q) (by omega)
          have l1b := S1.out.ld R (by omega) P (c) (by omega)
          rw [← hx1] at l1a
          rw [← hy1] at l1b
          have hc1 := S1.out.cmp HC.out (by omega) x1 y1
          have hl1 : ltOf cf x1 y1 = false := by rw [hx1, hy1]; exact hq
          have hd1 : decide (cf x1 y1 < 0) = false := hl1
          have hv1 : ¬ cf x1 y1 < 0 := of_decide_eq_false hl1
          clear hx1 hy1 hl1
          go_wp2_with fail
          go_quiet_grown (first | (go_at_fn g; refine Calls.grown_of (hc1 _ _)))
          have S2 : Aside (SWK enc k w0 blk off d (grow (wr.drewN nq) osq)) := S1.out.grown nq osq
          clear l1a l1b hc1 S1
          generalize grow (wr.drewN nq) osq = w2 at S2 ⊢
          clear nq osq
          clear hq
          go_wp2
          go_roundg (r - (c + 1))
          case measure => omega
          case rel =>
            refine ⟨c + 1, r, by go_num, rfl, by omega, by omega, hrh, Nat.le_refl _, S2, fun x h1 h2 => ?_, HI.out.2⟩
            by_cases hx : x < s
            · exact HI.out.1 x h1 hx
            · have k1 := RS.le HO.out HL.out (show a ≤ x by omega) (show x ≤ c by omega) (by omega)
              have hqe := HQQ.out
              have h4 := HLH.out.h4
              have k2 := RS.le HO.out HRr.out hmq (show q ≤ m + mid - 1 - x by omega) (by omega)
              exact HO.out.ntrans _ _ _ k2 (HO.out.ntrans _ _ _ HQ.out k1)
        | true =>
          have HQ : Hid (ltOf cf d[q]! d[c]! = true) := hq
          have ea2x : ((q : Int)).toNat = q := by omega
          have pa2x : (0 : Int) ≤ (q : Int) := by omega
          have ba2x : (q : Int) < (d.size : Int) := by omega
          have ra2x : IntKind.i64.wrap ((q : Int)) = (q : Int) := by rw [IntKind.wrap_i64]; omega
          have ea2y : ((c : Int)).toNat = c := by omega
          have pa2y : (0 : Int) ≤ (c : Int) := by omega
          have ba2y : (c : Int) < (d.size : Int) := by omega
          have ra2y : IntKind.i64.wrap ((c : Int)) = (c : Int) := by rw [IntKind.wrap_i64]; omega
          obtain ⟨x2, hx2⟩ : ∃ x, x = d[q]! := ⟨_, rfl⟩
          obtain ⟨y2, hy2⟩ : ∃ x, x = d[c]! := ⟨_, rfl⟩
          have l2a := S1.out.ld R (by omega) P (q) (by omega)
          have l2b := S1.out.ld R (by omega) P (c) (by omega)
          rw [← hx2] at l2a
          rw [← hy2] at l2b
          have hc2 := S1.out.cmp HC.out (by omega) x2 y2
          have hl2 : ltOf cf x2 y2 = true := by rw [hx2, hy2]; exact hq
          have hd2 : decide (cf x2 y2 < 0) = true := hl2
          have hv2 : cf x2 y2 < 0 := of_decide_eq_true hl2
          clear hx2 hy2 hl2
          go_wp2_with fail
          go_quiet_grown (first | (go_at_fn g; refine Calls.grown_of (hc2 _ _)))
          have S2 : Aside (SWK enc k w0 blk off d (grow (wr.drewN nq) osq)) := S1.out.grown nq osq
          clear l2a l2b hc2 S1
          generalize grow (wr.drewN nq) osq = w2 at S2 ⊢
          clear nq osq
          clear hq
          go_wp2
          go_roundg (c - s)
          case measure => omega
          case rel =>
            refine ⟨s, c, rfl, rfl, hls, by omega, by omega, Nat.le_refl _, S2, HI.out.1, fun x h1 h2 => ?_⟩
            have k1 := RS.le HO.out HL.out (show a ≤ c by omega) h1 (by omega)
            have hqe := HQQ.out
            have h5 := HLH.out.h5
            have k2 := RS.le HO.out HRr.out (show m ≤ m + mid - 1 - x by omega) (show m + mid - 1 - x ≤ q by omega) hqb
            exact swo_le_lt HO.out k2 (swo_lt_le HO.out HQ.out k1)
      · obtain rfl : s = r := by omega
        have HCut : Hid (Cut (ltOf cf) a m b s (m + mid - s) d) := cut_of HO.out HL.out HRr.out HLH.out hls hrh HI.out.1 HI.out.2
        obtain ⟨e, he⟩ : ∃ e, m + mid - s = e := ⟨_, rfl⟩
        have hes : (n : Int) - (s : Int) = (e : Int) := by have := HN.out; have := HLH.out.h3; omega
        rw [he] at HCut
        have hsm : s ≤ m := HCut.out.h2
        have hme : m ≤ e := HCut.out.h3
        have heb : e ≤ b := HCut.out.h4
        have hmse : s + (e - m) = mid := by omega
        have HMS : Hid (s + (e - m) = mid) := hmse
        clear he hmse HI hkx hlohi hhim hrh hlt
        go_upto_region 39 with (fail)
        go_cut [185] from 178 to 184 (fun v wx => ∃ bb : Bool, v = .bool bb ∧ Hid (bb = decide (s < m ∧ m < e)) ∧ wx = wr)
        case first =>
          by_cases t1 : s < m
          · have t1z : (s : Int) < (m : Int) := by omega
            by_cases t2 : m < e
            · have t2z : (m : Int) < (e : Int) := by omega
              go_wp2
              go_meet
              case rel => exact ⟨true, rfl, (decide_eq_true (p := s < m ∧ m < e) ⟨t1, t2⟩).symm, rfl⟩
            · have t2z : ¬ (m : Int) < (e : Int) := by omega
              go_wp2
              go_meet
              case rel => exact ⟨false, rfl, (decide_eq_false (p := s < m ∧ m < e) (fun h => t2 h.2)).symm, rfl⟩
          · have t1z : ¬ (s : Int) < (m : Int) := by omega
            go_wp2
            go_meet
            case rel => exact ⟨false, rfl, (decide_eq_false (p := s < m ∧ m < e) (fun h => t1 h.1)).symm, rfl⟩
        case rest =>
          obtain ⟨bb, rfl, HB, rfl⟩ := hcut
          go_upto_if 185 with (fail)
          go_cut [] from 185 to 191 (fun wx => ∃ d1 : Array α, d1.size = d.size ∧ Aside (SWK enc k w0 blk off d1 wx) ∧ Hid (RotR s m e d d1))
          case first =>
            cases bb with
            | true =>
              have t := of_decide_eq_true HB.out.symm
              have hcall := HRot.out _ s e S1.out t.1 t.2 (by omega)
              clear S1 t HB
              go_wp2_with (go_at_fn 177; refine hcall.mono ?_; rintro e1 w1 ⟨rfl, d1, S3, h1⟩)
              go_meet
              case rel => exact ⟨d1, h1.size, S3, h1⟩
            | false =>
              have t := HB
              clear HB
              go_wp2
              go_meet
              case rel => exact ⟨d, rfl, S1, rot_id d hsm hme (of_decide_eq_false t.out.symm)⟩
          case rest =>
            obtain ⟨d1, hd1, S3, HRt⟩ := hcut
            have HCL : Hid (RS (ltOf cf) tg a s d1 ∧ RS (ltOf cf) tg s mid d1 ∧ TL tg a s mid d1) := by
              have := cut_left HCut.out HL.out HRr.out HT.out HRt.out
              rwa [HMS.out] at this
            have hsmid : s ≤ mid := by have := HMS.out; omega
            have hmide : mid ≤ e := by have := HMS.out; omega
            clear S1 HRot HB
            go_upto_region 41 with (fail)
            go_cut [199] from 192 to 198 (fun v wx => ∃ bb : Bool, v = .bool bb ∧ Hid (bb = decide (a < s ∧ s < mid)) ∧ wx = wc)
            case first =>
              by_cases t1 : a < s
              · have t1z : (a : Int) < (s : Int) := by omega
                by_cases t2 : s < mid
                · have t2z : (s : Int) < (mid : Int) := by omega
                  go_wp2
                  go_meet
                  case rel => exact ⟨true, rfl, (decide_eq_true (p := a < s ∧ s < mid) ⟨t1, t2⟩).symm, rfl⟩
                · have t2z : ¬ (s : Int) < (mid : Int) := by omega
                  go_wp2
                  go_meet
                  case rel => exact ⟨false, rfl, (decide_eq_false (p := a < s ∧ s < mid) (fun h => t2 h.2)).symm, rfl⟩
              · have t1z : ¬ (a : Int) < (s : Int) := by omega
                go_wp2
                go_meet
                case rel => exact ⟨false, rfl, (decide_eq_false (p := a < s ∧ s < mid) (fun h => t1 h.1)).symm, rfl⟩
            case rest =>
              obtain ⟨bb2, rfl, HB2, rfl⟩ := hcut
              go_upto_if 199 with (fail)
              go_cut [] from 199 to 205 (fun wx => ∃ d2 : Array α, d2.size = d.size ∧ Aside (SWK enc k w0 blk off d2 wx) ∧ Hid (Mrg (ltOf cf) tg a mid d1 d2))
              case first =>
                cases bb2 with
                | true =>
                  have t := of_decide_eq_true HB2.out.symm
                  have hcall := HIH.out d1 a s mid _ (by omega) t.1 t.2 (by omega) hd1 S3.out HCL.out.1 HCL.out.2.1 HCL.out.2.2
                  clear S3 t HB2
                  go_wp2_with (go_at_fn 162; refine hcall.mono ?_; rintro e1 w1 ⟨rfl, d2, S4, h1⟩)
                  go_meet
                  case rel => exact ⟨d2, h1.1.1.trans hd1, S4, h1⟩
                | false =>
                  have t := HB2
                  clear HB2
                  go_wp2
                  go_meet
                  case rel =>
                    refine ⟨d1, hd1, S3, permIn_refl d1 a mid, ?_⟩
                    have t2 := of_decide_eq_false t.out.symm
                    by_cases q : a = s
                    · subst q; exact HCL.out.2.1
                    · obtain rfl : s = mid := by omega
                      exact HCL.out.1
              case rest =>
                obtain ⟨d2, hd2, S4, HM1⟩ := hcut
                have HCR : Hid (RS (ltOf cf) tg mid e d2 ∧ RS (ltOf cf) tg e b d2 ∧ TL tg mid e b d2) := by
                  have := cut_right (d2 := d2) HCut.out HL.out HRr.out HT.out HRt.out (fun i hi => HM1.out.1.2.1 i (.inr (by have := HMS.out; omega)))
                  rwa [HMS.out] at this
                clear S3 HB2
                go_upto_region 43 with (fail)
                go_cut [213] from 206 to 212 (fun v wx => ∃ bb : Bool, v = .bool bb ∧ Hid (bb = decide (mid < e ∧ e < b)) ∧ wx = wc)
                case first =>
                  by_cases t1 : mid < e
                  · have t1z : (mid : Int) < (e : Int) := by omega
                    by_cases t2 : e < b
                    · have t2z : (e : Int) < (b : Int) := by omega
                      go_wp2
                      go_meet
                      case rel => exact ⟨true, rfl, (decide_eq_true (p := mid < e ∧ e < b) ⟨t1, t2⟩).symm, rfl⟩
                    · have t2z : ¬ (e : Int) < (b : Int) := by omega
                      go_wp2
                      go_meet
                      case rel => exact ⟨false, rfl, (decide_eq_false (p := mid < e ∧ e < b) (fun h => t2 h.2)).symm, rfl⟩
                  · have t1z : ¬ (mid : Int) < (e : Int) := by omega
                    go_wp2
                    go_meet
                    case rel => exact ⟨false, rfl, (decide_eq_false (p := mid < e ∧ e < b) (fun h => t1 h.1)).symm, rfl⟩
                case rest =>
                  obtain ⟨bb3, rfl, HB3, rfl⟩ := hcut
                  have fin : ∀ d3 : Array α, Mrg (ltOf cf) tg mid b d2 d3 → Mrg (ltOf cf) tg a b d d3 := fun d3 h3 => by
                    have h1 := HM1.out
                    rw [← HMS.out] at h1 h3
                    exact cut_fin hb HCut.out HL.out HRr.out HT.out HRt.out h1 h3
                  have HFin : Hid _ := fin
                  clear fin
                  cases bb3 with
                  | true =>
                    have t := of_decide_eq_true HB3.out.symm
                    have hcall := HIH.out d2 mid e b _ (by omega) t.1 t.2 (by omega) hd2 S4.out HCR.out.1 HCR.out.2.1 HCR.out.2.2
                    clear S4 t HB3
                    go_wp2_with (go_at_fn 162; refine hcall.mono ?_; rintro e1 w1 ⟨rfl, d3, S5, h1⟩)
                    go_end0
                    exact ⟨rfl, d3, S5, HFin.out d3 h1⟩
                  | false =>
                    have t := HB3
                    clear HB3
                    go_wp2
                    go_end0
                    refine ⟨rfl, d2, S4.out, HFin.out d2 ⟨permIn_refl d2 mid b, ?_⟩⟩
                    have t2 := of_decide_eq_false t.out.symm
                    by_cases q : mid = e
                    · rw [q]; exact HCR.out.2.1
                    · obtain rfl : e = b := by omega
                      exact HCR.out.1

theorem symMerge_any (L : SLP P k) (enc : α → List Value) (cf : α → α → Int) (tg : α → Nat) (g : Nat) (cb : Array Value) (blk off cap : Nat) (d0 : Array α) (w0 : World)
    (eg : ∀ args w, (callFunc g args).run P w = .ok (.enter g args) w) (hcmp : CmpLays P g cb enc k cf blk off d0.size w0) (R : RowK enc k w0 blk off d0) (hO : SWO (ltOf cf)) (hsz : d0.size < 4611686018427387904) :
    ∀ (N : Nat) (d : Array α) (a m b : Nat) (w : World), b - a ≤ N → a < m → m < b → b ≤ d0.size → d.size = d0.size → SWK enc k w0 blk off d w → RS (ltOf cf) tg a m d → RS (ltOf cf) tg m b d → TL tg a m b d →
      Calls P 162 #[.slice (some ⟨blk, off, none⟩) d0.size cap, .int .i64 (a : Int), .int .i64 (m : Int), .int .i64 (b : Int), .func (.func g) #[] cb] w fun e w' => e = .returned (.tuple #[]) ∧ ∃ d', SWK enc k w0 blk off d' w' ∧ Mrg (ltOf cf) tg a b d d'
  | 0, d, a, m, b, w, h, h1, h2, _, _, _, _, _, _ => by omega
  | N + 1, d, a, m, b, w, h, h1, h2, h3, hd, S, hl, hr, ht => by
    rw [← hd]
    by_cases q1 : m = a + 1
    · subst q1
      exact sm_one L enc cf tg g cb blk off cap a b d0 d w0 w eg hcmp R hd.symm S hO (by omega) (by omega) h2 hr ht
    · by_cases q2 : b = m + 1
      · subst q2
        exact sm_last L enc cf tg g cb blk off cap a m d0 d w0 w eg hcmp R hd.symm S hO (by omega) (by omega) (by omega) hl ht
      · refine sm_all L enc cf tg g cb blk off cap a m b d0 d w0 w eg hcmp R hd.symm S hO (by omega) (by omega) (by omega) (by omega) hl hr ht fun dk x y z wk k1 k2 k3 k4 k5 k6 k7 k8 k9 => ?_
        rw [hd]
        exact symMerge_any L enc cf tg g cb blk off cap d0 w0 eg hcmp R hO hsz N dk x y z wk (by omega) k2 k3 (by omega) (by omega) k6 k7 k8 k9
end Go.Proofs.YtfcnobcpnhfgmaaDoor
