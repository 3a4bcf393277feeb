/- The law ManifestSaves at every room, list of states, rows of bytes and numbers: true. Conditions: the slices hold what they hold; no row of bytes is longer than memory bears. -/
import Derived.Test.YtofkfafdodhmdaaGreatDoorMfYe
namespace Go.Proofs.YtofkfafdodhmdaaGreatDoor
open Go.RowKit

theorem wgt_up (js : List (List UInt8)) (k : Nat) : wgt (js.take k) ≤ wgt (js.take (k + 1)) := by
  have h1 := wgt_app ((js.take (k + 1)).take k) ((js.take (k + 1)).drop k)
  rw [List.take_append_drop, List.take_take, Nat.min_eq_left (Nat.le_succ k)] at h1
  omega
/-- What Load tells, without cases. -/
def loadU (l : List UInt8) : Sta × Int := match readS l with
  | some (s, _) => (s, 0)
  | none => (staZ, 20)
theorem ld_u {w w1 : World} {l : List UInt8} {e : Ending} (h : load9_anyEnd w l e w1) : ∃ A m c, e = .returned (.tuple #[staV (loadU l).1.g (loadU l).1.a (loadU l).1.n (.slice A m c), .int .i64 (loadU l).2]) ∧ Hid (SlI w1 (.slice A m c) (loadU l).1.t) ∧ Below w.heap.size w w1 := by
  obtain ⟨h1, h2⟩ := h
  unfold loadU
  cases hr : readS l with
  | some q =>
    obtain ⟨s, n⟩ := q
    rw [hr] at h1
    obtain ⟨v, rfl, h3⟩ := h1
    obtain ⟨A, c, rfl, _⟩ := id h3
    exact ⟨A, _, c, rfl, h3, h2⟩
  | none =>
    rw [hr] at h1
    exact ⟨Option.none, 0, 0, h1, slI_nil _, h2⟩
theorem loadU_len (l : List UInt8) : (loadU l).1.t.length ≤ 1000000 := by
  unfold loadU
  cases hr : readS l with
  | some q =>
    obtain ⟨s, n⟩ := q
    have h := readS_gen hr
    show s.t.length ≤ _
    by_cases h0 : 0 < n
    · have := ((Sta.right_iff _).1 (h.1 h0)).tl; omega
    · rw [h.2 (by omega)]; show ([] : List Int).length ≤ _; simp
  | none => show ([] : List Int).length ≤ _; simp

set_option maxRecDepth 100000 in
set_option maxHeartbeats 64000000 in
theorem saves_any (z : Int) (vl : Value) (cs : List Sta) (vj : Value) (js : List (List UInt8)) (vc : Value) (ks : List Int) (w : World) (hv : StArg w vl cs) (hj : LsA w vj js) (hjr : ∀ x ∈ js, x.length ≤ 9223372036850000000) (hc : SlI w vc ks) (hkb : ∀ x ∈ ks, -9223372036854775808 ≤ x ∧ x < 9223372036854775808) (hz64 : -9223372036854775808 ≤ z ∧ z < 9223372036854775808) :
    Calls Tryz.prog 4 #[.int .i64 z, vl, vj, vc] w fun e w' => e = .returned (.bool true) ∧ Below w.heap.size w w' := by
  have HAl : Hid (∀ W, Calls Tryz.prog 7 #[] W fun e w' => e = .returned (.bool true) ∧ Below W.heap.size W w') := fun W => alive9_any W
  have HWl : Hid (wgt js ≤ 500 → WeighLe w vj 500) := fun h => weigh_le vj js 500 (by omega) hjr w hj h
  have HWg : Hid (500 < wgt js → WeighGt w vj 500) := fun h => weigh_gt vj js 500 (by omega) hjr w hj h
  have HJ0 := hid hj
  have HC0 := hid hc
  have HKb := hid hkb
  obtain ⟨A, c, rfl, hl, hh⟩ := hv
  have HH := hid hh
  obtain ⟨Aj, cj, rfl, _⟩ := hj
  obtain ⟨Ac, cc, rfl, _⟩ := hc
  obtain ⟨n, hn⟩ : ∃ n, cs.length = n := ⟨_, rfl⟩
  obtain ⟨nj, hnj⟩ : ∃ n, js.length = n := ⟨_, rfl⟩
  obtain ⟨nc, hnc⟩ : ∃ n, ks.length = n := ⟨_, rfl⟩
  have HN := hid hn
  have HNj := hid hnj
  have HNc := hid hnc
  rw [hn] at hl ⊢
  rw [hnj] at HJ0 HWl HWg ⊢
  rw [hnc] at HC0 ⊢
  clear hn hnj hnc hh hjr hkb
  by_cases hb1 : 100 < n
  · go_enter Tryz.func4, Tryz.ntmps4
    go_wp2_with (go_at_call 7; refine (HAl.out _).mono ?_; rintro e w1 ⟨rfl, hb1⟩)
    go_ret
    exact ⟨rfl, hb1⟩
  by_cases hb2 : 500 < wgt js
  · have HW := hid (HWg.out hb2)
    clear hb2 HWl HWg
    go_enter Tryz.func4, Tryz.ntmps4
    go_wp2_with (first
      | (go_at_call 7; refine (HAl.out _).mono ?_; rintro e w1 ⟨rfl, hb1⟩)
      | (go_at_call 19; refine (HW.out _ hb1).mono ?_; rintro e w2 ⟨y, rfl, hy, hb2⟩))
    go_ret
    exact ⟨rfl, hb1.trans (hb2.mono hb1.size)⟩
  have HW := hid (HWl.out (Nat.le_of_not_lt hb2))
  have HJw : Hid (wgt js ≤ 500) := Nat.le_of_not_lt hb2
  have h100 : ¬ ((100 : Int) < (n : Int)) := by omega
  have hn100 : n ≤ 100 := by omega
  clear hb1 hb2 HWl HWg hl
  by_cases hb3 : 200 < nc
  · have h200 : (200 : Int) < (nc : Int) := by omega
    go_enter Tryz.func4, Tryz.ntmps4
    go_wp2_with (first
      | (go_at_call 7; refine (HAl.out _).mono ?_; rintro e w1 ⟨rfl, hb1⟩)
      | (go_at_call 19; refine (HW.out _ hb1).mono ?_; rintro e w2 ⟨y, rfl, hy, hb2⟩; have hyn : ¬ ((500 : Int) < y) := by omega))
    go_ret
    exact ⟨rfl, hb1.trans (hb2.mono hb1.size)⟩
  have h200 : ¬ ((200 : Int) < (nc : Int)) := by omega
  have hnc200 : nc ≤ 200 := by omega
  clear hb3
  by_cases hz : 0 ≤ z ∧ z ≤ 16777216
  rotate_left
  · have HNo : Hid (∀ W, Calls Tryz.prog 20 #[.int .i64 z] W fun e w' => e = .returned (.tuple #[.pointer none, .int .i64 11]) ∧ Below W.heap.size W w') := fun W => new_no z (by omega) W
    have HRo : Hid (∀ W, Calls Tryz.prog 21 #[.int .i64 z] W fun e w' => e = .returned (.tuple #[.pointer none, .int .i64 11]) ∧ Below W.heap.size W w') := fun W => rnew_no z (by omega) W
    clear hz hz64
    go_enter Tryz.func4, Tryz.ntmps4
    go_wp2_with (first
      | (go_at_call 7; refine (HAl.out _).mono ?_; rintro e w1 ⟨rfl, hb1⟩)
      | (go_at_call 19; refine (HW.out _ hb1).mono ?_; rintro e w2 ⟨y, rfl, hy, hb2⟩; have hyn : ¬ ((500 : Int) < y) := by omega)
      | (go_at_call 20; refine (HNo.out _).mono ?_; rintro e w3 ⟨rfl, hb3⟩)
      | (go_at_call 21; refine (HRo.out _).mono ?_; rintro e w4 ⟨rfl, hb4⟩))
    go_ret
    exact ⟨rfl, ((hb1.trans (hb2.mono hb1.size)).trans (hb3.mono (Nat.le_trans hb1.size hb2.size))).trans (hb4.mono (Nat.le_trans (Nat.le_trans hb1.size hb2.size) hb3.size))⟩
  go_enter Tryz.func4, Tryz.ntmps4
  go_upto_region 3 with (go_at_call 7; refine (HAl.out _).mono ?_; rintro e w0 ⟨rfl, hb0⟩)
  go_upto_region 5 with (go_at_call 19; go_loud (refine (HW.out _ hb0).mono ?_; rintro e w1 ⟨y, rfl, hy, hb1⟩; have hyn : ¬ ((500 : Int) < y) := by omega))
  have HB1 := hid (hb0.trans (hb1.mono hb0.size))
  clear hb0 hb1 HAl HW
  go_upto_region 6 with (go_at_call 20; refine (Al.new (w := w1) z hz.1 hz.2).mono ?_; rintro e w2 ⟨rfl, HA2⟩)
  obtain ⟨db, hdb⟩ : ∃ db, w1.heap.size + 1 = db := ⟨_, rfl⟩
  obtain ⟨mb, hmb⟩ : ∃ mb, w1.heap.size = mb := ⟨_, rfl⟩
  have HA3 : Hid (Al w1 w2 db mb z 0 [] ([], 0)) := by rw [← hdb, ← hmb]; exact HA2.out
  rw [hdb]
  clear HA2 hdb hmb
  go_upto_region 7 with (go_at_call 21; refine (rnew_yes z hz.1 hz.2 _).mono ?_; rintro e w3 ⟨rfl, hd3, hb3⟩; have HD3 := hid (And.intro hd3 hb3); clear hd3 hb3)
  obtain ⟨rb, hrb⟩ : ∃ rb, w2.heap.size = rb := ⟨_, rfl⟩
  have HS0 : Hid (Sv w1 w3 db mb rb rb z 0 0 [] ([], 0) (Rt rb (.slice none 0 0) (.slice none 0 0) []) ([], 0)) := by
    rw [← hrb]
    refine ⟨HA3.out.below HD3.out.2, ⟨⟨_, _, [], [], [], 0, ⟨HD3.out.1, ag_nil, rfl⟩, rfl, rfl, Nat.le_refl _⟩, good_nil z hz.1⟩, fun k q r => ?_, HA3.out.be.size⟩
    have h1 := (HA3.out.sd.lt q).2
    rcases r with r | r | r | ⟨m, hm, _⟩
    · omega
    · cases r
    · cases r
    · cases hm
  rw [hrb]
  obtain ⟨F0, hF0⟩ : ∃ F0, Rt rb (.slice none 0 0) (.slice none 0 0) [] = F0 := ⟨_, rfl⟩
  rw [hF0] at HS0
  clear hF0 hrb HD3 HA3
  go_wp2
  go_loopw [13] (fun vi wr => ∃ (k : Nat) (fs : List Fl) (p : PV) (F : Nat → Prop), vi = .int .i64 (k : Int) ∧ k ≤ n ∧ Hid (Sv w1 wr db mb rb rb z (8 * k) (8 * k) fs p F p ∧ Bd p.1 (2546 + wgt (js.take k)) 2047)) (fun vi _ => n - (intOf vi).toNat)
  case atStart => exact ⟨0, [], ([], 0), F0, rfl, Nat.zero_le _, HS0.out, fun f hf => by cases hf⟩
  case round =>
    obtain ⟨k, fs, p, F, rfl, hk, HL⟩ := hrel
    by_cases hkn : k < n
    · have hkl : k < cs.length := by rw [HN.out]; exact hkn
      obtain ⟨b, o, u, rfl, hc⟩ := HH.out k hkl
      obtain ⟨s, hs⟩ : ∃ s, cs[k] = s := ⟨_, rfl⟩
      rw [hs] at hc
      have HC1 := hid (hc.below HB1.out)
      obtain ⟨Au, cu, eu, _⟩ := hc.sl
      obtain ⟨m, hm⟩ : ∃ m, s.t.length = m := ⟨_, rfl⟩
      rw [hm] at eu
      subst eu
      have hm60 := hm
      have c0 := (HC1.out.below HL.out.1.al.be).c0
      have c1 := (HC1.out.below HL.out.1.al.be).c1
      have c2 := (HC1.out.below HL.out.1.al.be).c2
      have c3 := (HC1.out.below HL.out.1.al.be).c3
      by_cases h60 : 60 < m
      · clear hc hm hm60 hs
        go_wp2
        go_ret
        exact ⟨rfl, HB1.out.trans (HL.out.1.al.be.mono HB1.out.size)⟩
      · obtain ⟨q, hq⟩ : ∃ q, (pSave s z p).1 = q := ⟨_, rfl⟩
        obtain ⟨p1, hp1⟩ : ∃ p1, (pSave s z p).2 = p1 := ⟨_, rfl⟩
        have hwt : wgt (js.take k) ≤ 500 := by
          have h1 := wgt_app (js.take k) (js.drop k)
          rw [List.take_append_drop] at h1
          have h2 := HJw.out
          omega
        have hwt1 : wgt (js.take (k + 1)) ≤ 500 := by
          have h1 := wgt_app (js.take (k + 1)) (js.drop (k + 1))
          rw [List.take_append_drop] at h1
          have h2 := HJw.out
          omega
        have hrl : (rdM p).length ≤ 1000000 := by have := HL.out.2.rd; omega
        have HOf : Hid (∀ W, Below w1.heap.size w1 W → Calls Tryz.prog 9 #[staV s.g s.a s.n (.slice Au m cu)] W fun e w' => ∃ A3 m3 c3, e = .returned (staV s.g s.a s.n (.slice A3 m3 c3)) ∧ Hid (SlI w' (.slice A3 m3 c3) s.t ∧ OwnN (.slice A3 m3 c3) W.heap.size w'.heap.size) ∧ Below W.heap.size W w') := fun W hW => by
          refine (of9_own s (.slice Au m cu) W (HC1.out.sl.below hW) (by omega)).mono ?_
          rintro e w' ⟨v9, rfl, hI, hb⟩
          obtain ⟨A3, c3, rfl, _⟩ := id hI.1
          exact ⟨A3, _, c3, rfl, hI, hb⟩
        have HSv : Hid (∀ W v2 jr F2 pr, Sv w1 W db mb rb rb z (8 * k) (jr) fs p F2 pr → SlI W v2 s.t → Calls Tryz.prog 22 #[.pointer (some ⟨db, 0, none⟩), .string mN, staV s.g s.a s.n v2] W fun e w' => ∃ fs2, e = .returned (.int .i64 q) ∧ Hid (Sv w1 w' db mb rb rb z (8 * k + 6) (jr) fs2 p1 F2 pr)) := fun W v2 jr F2 pr h h2 => by
          refine (save9_any h.al.sd (by omega) hz s v2 h2 hrl).mono ?_
          rintro e w' ⟨rfl, fs2, h3, h4⟩
          rw [hp1] at h3
          exact ⟨fs2, by rw [hq], h.ours h3 h4⟩
        have HRs : Hid (∀ W jo fs2 po, Sv w1 W db mb rb rb z (jo) (8 * k) fs2 po F p → Calls Tryz.prog 23 #[.pointer (some ⟨rb, 0, none⟩), .string mN, staV s.g s.a s.n (.slice Au m cu)] W fun e w' => ∃ F2, e = .returned (.int .i64 q) ∧ Hid (Sv w1 w' db mb rb rb z (jo) (8 * k + 6) fs2 po F2 p1 ∧ Mr W w' F F2)) := fun W jo fs2 po h => by
          refine (rsave9_any h.rd (by omega) hz s (.slice Au m cu) (HC1.out.sl.below h.al.be) HL.out.2 (by omega) (by omega)).mono ?_
          rintro e w' ⟨rfl, F2, h3, h4⟩
          rw [hp1] at h3
          exact ⟨F2, by rw [hq], h.doc h3 h4, h4⟩
        have HBd1 : Hid (Bd p1.1 (2546 + wgt (js.take k)) 2047) := by rw [← hp1]; exact HL.out.2.save HL.out.1.al.sd.good hz.2 (by omega) (Nat.le_refl _)
        have HS0d : Hid (Sv w1 wr.drew db mb rb rb z (8 * k) (8 * k) fs p F p) := HL.out.1.below (Below.refl _ _).drew
        clear hq hp1 hc hm hs hrl HL hm60
        obtain ⟨g, a, nn, t⟩ := s
        dsimp only at c0 c1 c2 HOf HSv HRs
        go_upto_region 14 with (fail)
        clear c0 c1 c2 c3
        have d0 := (HC1.out.below HS0d.out.al.be).c0
        have d1 := (HC1.out.below HS0d.out.al.be).c1
        have d2 := (HC1.out.below HS0d.out.al.be).c2
        have d3 := (HC1.out.below HS0d.out.al.be).c3
        dsimp only at d0 d1 d2
        go_region_law (first
          | (go_simp; go_at_call 9; refine (HOf.out _ HS0d.out.al.be).mono ?_; rintro e w5 ⟨A5, m5, c5, rfl, HV5, hb5⟩; have HG5 := hid (HS0d.out.below hb5); clear d0 d1 d2 d3; have d0 := (HC1.out.below HG5.out.al.be).c0; have d1 := (HC1.out.below HG5.out.al.be).c1; have d2 := (HC1.out.below HG5.out.al.be).c2; have d3 := (HC1.out.below HG5.out.al.be).c3; dsimp only at d0 d1 d2)
          | (go_simp; go_at_call 9; refine (HOf.out _ HB7.out.1.al.be).mono ?_; rintro e w5 ⟨A5, m5, c5, rfl, HV5, hb5⟩; have HH5 := hid (HB7.out.1.below hb5); clear d0 d1 d2 d3; have d0 := (HC1.out.below HH5.out.al.be).c0; have d1 := (HC1.out.below HH5.out.al.be).c1; have d2 := (HC1.out.below HH5.out.al.be).c2; have d3 := (HC1.out.below HH5.out.al.be).c3; dsimp only at d0 d1 d2)
          | (go_simp; go_at_call 22; refine (HSv.out _ _ _ _ _ HG5.out HV5.out.1).mono ?_; rintro e w6 ⟨fs6, rfl, HA6⟩; clear d0 d1 d2 d3; have d0 := (HC1.out.below HA6.out.al.be).c0; have d1 := (HC1.out.below HA6.out.al.be).c1; have d2 := (HC1.out.below HA6.out.al.be).c2; have d3 := (HC1.out.below HA6.out.al.be).c3; dsimp only at d0 d1 d2)
          | (go_simp; go_at_call 22; refine (HSv.out _ _ _ _ _ HB7.out.1 (HB7.out.2 _ HV5)).mono ?_; rintro e w8 ⟨fs8, rfl, HC8⟩; clear d0 d1 d2 d3; have d0 := (HC1.out.below HC8.out.al.be).c0; have d1 := (HC1.out.below HC8.out.al.be).c1; have d2 := (HC1.out.below HC8.out.al.be).c2; have d3 := (HC1.out.below HC8.out.al.be).c3; dsimp only at d0 d1 d2)
          | (go_simp; go_at_call 22; refine (HSv.out _ _ _ _ _ HH5.out HV5.out.1).mono ?_; rintro e w8 ⟨fs8, rfl, HC8⟩; clear d0 d1 d2 d3; have d0 := (HC1.out.below HC8.out.al.be).c0; have d1 := (HC1.out.below HC8.out.al.be).c1; have d2 := (HC1.out.below HC8.out.al.be).c2; have d3 := (HC1.out.below HC8.out.al.be).c3; dsimp only at d0 d1 d2)
          | (go_simp; go_at_call 23; refine (HRs.out _ _ _ _ HS0d.out).mono ?_; rintro e w7 ⟨F7, rfl, HB7x⟩; have HB7 := hid (And.intro HB7x.out.1 True.intro); clear d0 d1 d2 d3; have d0 := (HC1.out.below HB7.out.1.al.be).c0; have d1 := (HC1.out.below HB7.out.1.al.be).c1; have d2 := (HC1.out.below HB7.out.1.al.be).c2; have d3 := (HC1.out.below HB7.out.1.al.be).c3; dsimp only at d0 d1 d2)
          | (go_simp; go_at_call 23; refine (HRs.out _ _ _ _ HG5.out).mono ?_; rintro e w7 ⟨F7, rfl, HB7x⟩; have HB7 : Hid (Sv w1 w7 db mb rb rb z (8 * k) (8 * k + 6) fs p F7 p1 ∧ ∀ v5, Hid (SlI w5 v5 t ∧ OwnN v5 wr.drew.heap.size w5.heap.size) → SlI w7 v5 t) := ⟨HB7x.out.1, fun v5 h5 => h5.out.1.chg9 HB7x.out.2.ch fun g3 e3 r3 => absurd (HS0d.out.rd.lt r3).2 (Nat.not_lt.2 (h5.out.2 g3 e3).1)⟩; clear d0 d1 d2 d3; have d0 := (HC1.out.below HB7.out.1.al.be).c0; have d1 := (HC1.out.below HB7.out.1.al.be).c1; have d2 := (HC1.out.below HB7.out.1.al.be).c2; have d3 := (HC1.out.below HB7.out.1.al.be).c3; dsimp only at d0 d1 d2)
          | (go_simp; go_at_call 23; refine (HRs.out _ _ _ _ HA6.out).mono ?_; rintro e w8 ⟨F8, rfl, HC8x⟩; have HC8 := hid HC8x.out.1; clear d0 d1 d2 d3; have d0 := (HC1.out.below HC8.out.al.be).c0; have d1 := (HC1.out.below HC8.out.al.be).c1; have d2 := (HC1.out.below HC8.out.al.be).c2; have d3 := (HC1.out.below HC8.out.al.be).c3; dsimp only at d0 d1 d2))
        all_goals (
          go_upto_region 16 with (fail)
          refine wp_ltc (fun W => ∃ fs F, Hid (Sv w1 W db mb rb rb z (8 * k + 6) (8 * k + 6) fs p1 F p1)) ⟨_, _, HC8.out⟩ ?_
          rintro W1 ⟨fs1, F1, HS1⟩
          (try clear HG5); (try clear HH5); (try clear HA6); (try clear HB7); (try clear HB7x); (try clear HC8x); (try clear HV5); (try clear HC8); (try clear HSv); (try clear HRs); (try clear HOf); (try clear HS0d); (try clear d0); (try clear d1); (try clear d2); (try clear d3)

          by_cases hjn : k < nj
          · have hjl : k < js.length := by rw [HNj.out]; exact hjn
            obtain ⟨x, hx⟩ : ∃ x, js[k] = x := ⟨_, rfl⟩
            have hxx : js[k]? = some x := by rw [List.getElem?_eq_getElem hjl, hx]
            have hxl := wgt_take js k x hxx
            obtain ⟨Aj2, cj2, ej, _, _, _, h5⟩ := HJ0.out
            obtain ⟨b2, o2, eb, hh2⟩ := h5 (by omega)
            rw [eb] at ej
            injection ej with ej1 ej2 ej3
            subst ej1
            clear ej2 ej3
            obtain ⟨u2, hu2, hS2⟩ := hh2 k x hxx
            obtain ⟨Ax, cx, eux, _⟩ := id hS2
            obtain ⟨xl, hxn⟩ : ∃ xl, x.length = xl := ⟨_, rfl⟩
            rw [hxn] at eux
            subst eux
            have HX2 : Hid (∀ W, Below w.heap.size w W → W.cell? ⟨b2, o2 + k, none⟩ = some (.slice Ax xl cx) ∧ SlA W (.slice Ax xl cx) x) := fun W hW => ⟨(hW.cell (p := ⟨b2, o2 + k, none⟩) (cell_lt hu2)).trans hu2, hS2.below hW⟩
            have HXo : Hid (∀ g3, (Value.slice Ax xl cx).ownBlock = some g3 → 0 < x.length → g3 < w.heap.size) := fun g3 e3 h0 => (sla_lt hS2 g3 e3).elim (fun q2 => by omega) id
            obtain ⟨pw, hpw⟩ : ∃ pw, (pWrite mN x z p1).2 = pw := ⟨_, rfl⟩
            have HBd2 : Hid (Bd pw.1 (2546 + wgt (js.take (k + 1))) 2047) := by
              rw [← hpw]
              exact (HBd1.out.pwN HS1.out.al.sd.good.ri).mono (by omega) (Nat.le_refl _)
            have hs1 := HBd1.out.size HS1.out.al.sd.good.ri
            have HWo : Hid (∀ W jr F2 pr, Sv w1 W db mb rb rb z (8 * k + 6) (jr) fs1 p1 F2 pr → Calls Tryz.prog 24 #[.pointer (some ⟨db, 0, none⟩), .string mN, .slice Ax xl cx] W fun e w' => ∃ q2 fs2, e = .returned (.int .i64 q2) ∧ Hid (Sv w1 w' db mb rb rb z (8 * k + 7) (jr) fs2 pw F2 pr)) := fun W jr F2 pr h => by
              refine (write9 h.al.sd (by omega) hz mN (by decide) _ x (HX2.out _ (HB1.out.trans (h.al.be.mono HB1.out.size))).2).mono ?_
              rintro e w' ⟨rfl, fs2, h3, h4⟩
              rw [hpw] at h3
              exact ⟨_, fs2, rfl, h.ours h3 h4⟩
            have HWd : Hid (∀ W jo fs2 po, Sv w1 W db mb rb rb z (jo) (8 * k + 6) fs2 po F1 p1 → Calls Tryz.prog 25 #[.pointer (some ⟨rb, 0, none⟩), .string mN, .slice Ax xl cx] W fun e w' => ∃ q2 F2, e = .returned (.int .i64 q2) ∧ Hid (Sv w1 w' db mb rb rb z (jo) (8 * k + 7) fs2 po F2 pw)) := fun W jo fs2 po h => by
              refine (rwrite9 h.rd (by omega) hz mN (by decide) _ x (HX2.out _ (HB1.out.trans (h.al.be.mono HB1.out.size))).2 (fun h0 g3 e3 r3 => by
                have h7 := HXo.out g3 e3 h0
                have h8 := (h.rd.lt r3).1
                have h9 := HB1.out.size
                have h10 := h.lo
                omega) (by omega)).mono ?_
              rintro e w' ⟨rfl, F2, h3, h4⟩
              rw [hpw] at h3
              exact ⟨_, F2, rfl, h.doc h3 h4⟩
            have d0 := (HX2.out _ (HB1.out.trans (HS1.out.al.be.mono HB1.out.size))).1
            clear hxx hh2 hu2 hS2 h5 eb hx hpw hjl hxn hxl hs1
            go_upto_region 18 with (go_at_call 24; refine (HWo.out _ _ _ _ HS1.out).mono ?_; rintro e v1 ⟨q1, fs2, rfl, HC1a⟩; clear d0; have d1 := (HX2.out _ (HB1.out.trans (HC1a.out.al.be.mono HB1.out.size))).1)
            go_upto_region 19 with (go_at_call 25; refine (HWd.out _ _ _ _ HC1a.out).mono ?_; rintro e v2 ⟨q2, F2, rfl, HC2a⟩)
            refine wp_ltc (fun W => ∃ fs F p, Hid (Sv w1 W db mb rb rb z (8 * k + 7) (8 * k + 7) fs p F p ∧ Bd p.1 (2546 + wgt (js.take (k + 1))) 2047)) ⟨_, _, pw, HC2a.out, HBd2.out⟩ ?_
            rintro W2 ⟨fs2, F2, p2, HS2⟩
            clear d1 HC1a HC2a HWo HWd HX2 HXo HBd2 HBd1 HS1
            by_cases hcn : k < nc
            · have hkl2 : k < ks.length := by rw [HNc.out]; exact hcn
              obtain ⟨Ac2, cc2, ek, _, _, hIA, _⟩ := HC0.out
              obtain ⟨b3, o3, eb3, hI⟩ := hIA (by omega)
              rw [eb3] at ek
              injection ek with ek1 ek2 ek3
              subst ek1
              clear ek2 ek3
              have hcell := hI k hkl2
              obtain ⟨K, hK⟩ : ∃ K, ks.getD k 0 = K := ⟨_, rfl⟩
              rw [hK] at hcell
              have hKb : -9223372036854775808 ≤ K ∧ K < 9223372036854775808 := by
                refine HKb.out K ?_
                rw [← hK, List.getD_eq_getElem?_getD, List.getElem?_eq_getElem hkl2]
                exact List.getElem_mem hkl2
              have HKc : Hid (∀ W, Below w.heap.size w W → W.cell? ⟨b3, o3 + k, none⟩ = some (.int .i64 K)) := fun W hW => (hW.cell (p := ⟨b3, o3 + k, none⟩) (cell_lt hcell)).trans hcell
              have hz2 := HS2.out.2.size HS2.out.1.al.sd.good.ri
              have HCo := hid (crash_ours HS2.out.1 (by omega) hz HS2.out.2 K hKb.1 hKb.2)
              have HCd : Hid (∀ W fs3 p3, SvC w1 W db mb rb rb z (8 * k + 7 + 1) (8 * k + 7) fs3 p3 F2 p2 K → Calls Tryz.prog 27 #[.pointer (some ⟨rb, 0, none⟩), .int .i64 K] W fun e w' => ∃ F3, e = .returned (.tuple #[]) ∧ Hid (Sv w1 w' db mb rb rb z (8 * k + 7 + 1) (8 * k + 7 + 1) fs3 p3 F3 p3)) := fun W fs3 p3 h => crash_docs h (by omega) (by omega) hKb.1 hKb.2
              have d0 := HKc.out _ (HB1.out.trans (HS2.out.1.al.be.mono HB1.out.size))
              clear hcell hI hIA eb3 hK hKb hkl2
              go_upto_region 21 with (go_at_call 26; refine HCo.out.mono ?_; rintro e v1 ⟨fs3, p3, rfl, HC3⟩; clear d0; have d1 := HKc.out _ (HB1.out.trans (HC3.out.1.sv.al.be.mono HB1.out.size)))
              go_upto_region 22 with (go_at_call 27; refine (HCd.out _ _ _ HC3.out.1).mono ?_; rintro e v2 ⟨F3, rfl, HC4⟩)
              refine wp_ltc (fun W => ∃ fs F p, Hid (Sv w1 W db mb rb rb z (8 * k + 8) (8 * k + 8) fs p F p ∧ Bd p.1 (2546 + wgt (js.take (k + 1))) 2047)) ⟨_, _, p3, HC4.out.upto (by omega) (by omega), HC3.out.2⟩ ?_
              rintro W3 ⟨fs3, F3, p3, HS3⟩
              clear d1 HC3 HC4 HCo HCd HKc HS2
              obtain ⟨l, hl⟩ : ∃ l, rdM p3 = l := ⟨_, rfl⟩
              obtain ⟨nl, hnl⟩ : ∃ n, l.length = n := ⟨_, rfl⟩
              have hl9 : l.length ≤ 10000 := by rw [← hl]; have := HS3.out.2.rd; omega
              have hsz : sizeV p3.1 ≤ 90000 := by have := HS3.out.2.size HS3.out.1.al.sd.good.ri; omega
              obtain ⟨y, hy⟩ : ∃ y, loadU l = y := ⟨_, rfl⟩
              obtain ⟨⟨yg, ya, yn, yt⟩, E⟩ := y
              have hyt : yt.length ≤ 1000000 := by have := loadU_len l; rw [hy] at this; exact this
              obtain ⟨ns, hns⟩ : ∃ ns, p3.1.map Fv.n = ns := ⟨_, rfl⟩
              have hnsl : ns.length ≤ 1000000 := by rw [← hns, List.length_map]; have := HS3.out.1.al.sd.good.len; omega
              have HLo : Hid (∀ W, Sv w1 W db mb rb rb z (8 * k + 8) (8 * k + 8) fs3 p3 F3 p3 → Calls Tryz.prog 28 #[.pointer (some ⟨db, 0, none⟩), .string mN] W fun e w' => ∃ A3 m3 c3, e = .returned (.tuple #[staV yg ya yn (.slice A3 m3 c3), .int .i64 E]) ∧ Hid (SlI w' (.slice A3 m3 c3) yt) ∧ Below W.heap.size W w') := fun W h => by
                refine (load9_any h.al.sd (by rw [hl]; omega)).mono ?_
                intro e w' h2
                have h3 := ld_u h2
                rw [hl, hy] at h3
                exact h3
              have HLd : Hid (∀ W, Sv w1 W db mb rb rb z (8 * k + 8) (8 * k + 8) fs3 p3 F3 p3 → Calls Tryz.prog 29 #[.pointer (some ⟨rb, 0, none⟩), .string mN] W fun e w' => ∃ A3 m3 c3, e = .returned (.tuple #[staV yg ya yn (.slice A3 m3 c3), .int .i64 E]) ∧ Hid (SlI w' (.slice A3 m3 c3) yt) ∧ Below W.heap.size W w') := fun W h => by
                refine (rload9_any h.rd (by omega) hsz (by rw [hl]; omega)).mono ?_
                intro e w' h2
                have h3 := ld_u h2
                rw [hl, hy] at h3
                exact h3
              have HRo : Hid (∀ W, Sv w1 W db mb rb rb z (8 * k + 8) (8 * k + 8) fs3 p3 F3 p3 → Calls Tryz.prog 30 #[.pointer (some ⟨db, 0, none⟩), .string mN] W fun e w' => ∃ A3 c3 o3, e = .returned (.tuple #[.slice A3 nl c3, .bool o3]) ∧ Hid (SlA w' (.slice A3 nl c3) l) ∧ Below W.heap.size W w') := fun W h => by
                refine (read9m h.al.sd (by rw [hl]; omega)).mono ?_
                rintro e w' ⟨v3, o3, rfl, h3, h4⟩
                rw [hl] at h3
                have h5 := h3.sla
                obtain ⟨A3, c3, rfl, _⟩ := id h5
                rw [hnl] at h5 ⊢
                exact ⟨A3, c3, o3, rfl, h5, h4⟩
              have HRd : Hid (∀ W, Sv w1 W db mb rb rb z (8 * k + 8) (8 * k + 8) fs3 p3 F3 p3 → Calls Tryz.prog 31 #[.pointer (some ⟨rb, 0, none⟩), .string mN] W fun e w' => ∃ A3 c3 o3, e = .returned (.tuple #[.slice A3 nl c3, .bool o3]) ∧ Hid (SlA w' (.slice A3 nl c3) l) ∧ Below W.heap.size W w') := fun W h => by
                refine (rread9m h.rd (by omega) hsz).mono ?_
                rintro e w' ⟨v3, o3, rfl, h3, h4⟩
                rw [hl] at h3
                have h5 := h3.sla
                obtain ⟨A3, c3, rfl, _⟩ := id h5
                rw [hnl] at h5 ⊢
                exact ⟨A3, c3, o3, rfl, h5, h4⟩
              have HNo : Hid (∀ W, Sv w1 W db mb rb rb z (8 * k + 8) (8 * k + 8) fs3 p3 F3 p3 → Calls Tryz.prog 33 #[.pointer (some ⟨db, 0, none⟩)] W fun e w' => ∃ A3 m3 c3, e = .returned (.slice A3 m3 c3) ∧ Hid (STx w' (.slice A3 m3 c3) ns) ∧ Below W.heap.size W w') := fun W h => by
                refine (names_ok h.al.sd.dk (by have h5 := h.al.sd.good.len; rw [← h.al.sd.v, List.length_map] at h5; omega)).mono ?_
                rintro e w' ⟨v3, rfl, h3, h4⟩
                have h5 := srow_stx h3
                rw [show fs3.map Fl.n = ns by rw [← hns, ← h.al.sd.v, List.map_map]; rfl] at h5
                obtain ⟨A3, c3, rfl, _⟩ := id h5
                exact ⟨A3, _, c3, rfl, h5, h4⟩
              have HNd : Hid (∀ W, Sv w1 W db mb rb rb z (8 * k + 8) (8 * k + 8) fs3 p3 F3 p3 → Calls Tryz.prog 34 #[.pointer (some ⟨rb, 0, none⟩)] W fun e w' => ∃ A3 m3 c3, e = .returned (.slice A3 m3 c3) ∧ Hid (STx w' (.slice A3 m3 c3) ns) ∧ Below W.heap.size W w') := fun W h => by
                refine (rnames9 h.rd (by omega) hsz).mono ?_
                rintro e w' ⟨v3, rfl, h3, h4⟩
                have h5 := srow_stx h3
                rw [hns] at h5
                obtain ⟨A3, c3, rfl, _⟩ := id h5
                exact ⟨A3, _, c3, rfl, h5, h4⟩
              have HSm : Hid (∀ W v1 v2, SlI W v1 yt → SlI W v2 yt → Calls Tryz.prog 18 #[staV yg ya yn v1, staV yg ya yn v2] W fun e w' => e = .returned (.bool true) ∧ Below W.heap.size W w') := fun W v1 v2 h1 h2 => by
                have := lsame_any ⟨yg, ya, yn, yt⟩ ⟨yg, ya, yn, yt⟩ v1 v2 W h1 h2 hyt hyt
                rwa [same_ok] at this
              have HSb : Hid (∀ W v1 v2, SlA W v1 l → SlA W v2 l → Calls Tryz.prog 17 #[v1, v2] W fun e w' => e = .returned (.bool true) ∧ Below W.heap.size W w') := fun W v1 v2 h1 h2 => by
                have := same_sla v1 v2 l l (by omega) W h1 h2
                rwa [decide_eq_true rfl] at this
              have HSt : Hid (∀ W v1 v2, STx W v1 ns → STx W v2 ns → Calls Tryz.prog 32 #[v1, v2] W fun e w' => e = .returned (.bool true) ∧ Below W.heap.size W w') := fun W v1 v2 h1 h2 => samet_ok v1 v2 ns hnsl W h1 h2
              have hEb : (E != E) = false := by simp
              clear hl hy hns hyt hnsl hl9 hsz hnl
              go_upto_region 23 with (go_at_call 28; refine (HLo.out _ HS3.out.1).mono ?_; rintro e v1 ⟨A4, m4, c4, rfl, HV4, hb4⟩)
              have e4 := below_new v1 (.cells #[.int .i64 yg, .int .i64 ya, .int .i64 yn, .slice A4 m4 c4] 29)
              have HX4 := hid (Blk.new v1 29 #[.int .i64 yg, .int .i64 ya, .int .i64 yn, .slice A4 m4 c4])
              have HG4 := hid (And.intro ((HS3.out.1.below hb4).below e4) (HV4.out.below e4))
              obtain ⟨b4, hq4⟩ : ∃ b, v1.heap.size = b := ⟨_, rfl⟩
              obtain ⟨V4, hV4⟩ : ∃ W, v1.alloc (.cells #[.int .i64 yg, .int .i64 ya, .int .i64 yn, .slice A4 m4 c4] 29) = W := ⟨_, rfl⟩
              rw [hV4, hq4] at HX4
              rw [hV4] at HG4 ⊢
              rw [hq4]
              clear hV4 hq4 e4 hb4 HV4 HLo
              go_upto_region 24 with (go_at_call 29; refine (HLd.out _ HG4.out.1).mono ?_; rintro e v2 ⟨A5, m5, c5, rfl, HV5, hb5⟩)
              have e5 := below_new v2 (.cells #[.int .i64 yg, .int .i64 ya, .int .i64 yn, .slice A5 m5 c5] 24)
              have HX5 := hid (Blk.new v2 24 #[.int .i64 yg, .int .i64 ya, .int .i64 yn, .slice A5 m5 c5])
              have HY5 := hid ((HX4.out.keep hb5 HX4.out.lt).keep e5 (HX4.out.keep hb5 HX4.out.lt).lt)
              have HG5 := hid (And.intro ((HG4.out.1.below hb5).below e5) (And.intro ((HG4.out.2.below hb5).below e5) (HV5.out.below e5)))
              obtain ⟨b5, hq5⟩ : ∃ b, v2.heap.size = b := ⟨_, rfl⟩
              obtain ⟨V5, hV5⟩ : ∃ W, v2.alloc (.cells #[.int .i64 yg, .int .i64 ya, .int .i64 yn, .slice A5 m5 c5] 24) = W := ⟨_, rfl⟩
              rw [hV5, hq5] at HX5
              rw [hV5] at HG5 HY5 ⊢
              rw [hq5]
              clear hV5 hq5 e5 hb5 HV5 HLd HG4 HX4
              go_upto_region 26 with (first
                | (go_at_call 30; refine (HRo.out _ HG5.out.1).mono ?_; rintro e v3 ⟨A6, c6, o6, rfl, HV6, hb6⟩; have HG6 := hid (HG5.out.1.below hb6))
                | (go_at_call 31; refine (HRd.out _ HG6.out).mono ?_; rintro e v4 ⟨A7, c7, o7, rfl, HV7, hb7⟩))
              have hb67 := hb6.trans (hb7.mono hb6.size)
              have HG7 := hid (And.intro (HG6.out.below hb7) (And.intro (HG5.out.2.1.below hb67) (And.intro (HG5.out.2.2.below hb67) (And.intro (HV6.out.below hb7) HV7.out))))
              have x0 : v4.cell? ⟨b4, 0, Option.none⟩ = some _ := (HY5.out.keep hb67 HY5.out.lt).cell 0
              have x1 : v4.cell? ⟨b4, 1, Option.none⟩ = some _ := (HY5.out.keep hb67 HY5.out.lt).cell 1
              have x2 : v4.cell? ⟨b4, 2, Option.none⟩ = some _ := (HY5.out.keep hb67 HY5.out.lt).cell 2
              have x3 : v4.cell? ⟨b4, 3, Option.none⟩ = some _ := (HY5.out.keep hb67 HY5.out.lt).cell 3
              have y0 : v4.cell? ⟨b5, 0, Option.none⟩ = some _ := (HX5.out.keep hb67 HX5.out.lt).cell 0
              have y1 : v4.cell? ⟨b5, 1, Option.none⟩ = some _ := (HX5.out.keep hb67 HX5.out.lt).cell 1
              have y2 : v4.cell? ⟨b5, 2, Option.none⟩ = some _ := (HX5.out.keep hb67 HX5.out.lt).cell 2
              have y3 : v4.cell? ⟨b5, 3, Option.none⟩ = some _ := (HX5.out.keep hb67 HX5.out.lt).cell 3
              clear hb6 hb7 hb67 HV6 HV7 HG6 HX5 HY5 HG5 HRo HRd
              go_wp2_with (first
                | (go_at_call 18; refine (HSm.out _ _ _ HG7.out.2.1 HG7.out.2.2.1).mono ?_; rintro e v5 ⟨rfl, hb8⟩)
                | (go_at_call 17; refine (HSb.out _ _ _ (HG7.out.2.2.2.1.below hb8) (HG7.out.2.2.2.2.below hb8)).mono ?_; rintro e v6 ⟨rfl, hb9⟩; have HG9 := hid ((HG7.out.1.below hb8).below hb9))
                | (go_at_call 33; refine (HNo.out _ HG9.out).mono ?_; rintro e v7 ⟨A10, m10, c10, rfl, HV10, hb10⟩; have HG10 := hid (HG9.out.below hb10))
                | (go_at_call 34; refine (HNd.out _ HG10.out).mono ?_; rintro e v8 ⟨A11, m11, c11, rfl, HV11, hb11⟩; have HG11 := hid (HG10.out.below hb11))
                | (go_at_call 32; refine (HSt.out _ _ _ (HV10.out.below hb11) HV11.out).mono ?_; rintro e v9 ⟨rfl, hb12⟩))
              go_roundw
              case rel => exact ⟨k + 1, fs3, p3, F3, by go_num, by omega, (HG11.out.below hb12).upto (by omega) (by omega), HS3.out.2⟩
              case measure => simp [intOf]; omega
            · go_upto_region 22 with (fail)
              refine wp_ltc (fun W => ∃ fs F p, Hid (Sv w1 W db mb rb rb z (8 * k + 8) (8 * k + 8) fs p F p ∧ Bd p.1 (2546 + wgt (js.take (k + 1))) 2047)) ⟨_, _, p2, HS2.out.1.upto (by omega) (by omega), HS2.out.2⟩ ?_
              rintro W3 ⟨fs3, F3, p3, HS3⟩
              clear HS2
              obtain ⟨l, hl⟩ : ∃ l, rdM p3 = l := ⟨_, rfl⟩
              obtain ⟨nl, hnl⟩ : ∃ n, l.length = n := ⟨_, rfl⟩
              have hl9 : l.length ≤ 10000 := by rw [← hl]; have := HS3.out.2.rd; omega
              have hsz : sizeV p3.1 ≤ 90000 := by have := HS3.out.2.size HS3.out.1.al.sd.good.ri; omega
              obtain ⟨y, hy⟩ : ∃ y, loadU l = y := ⟨_, rfl⟩
              obtain ⟨⟨yg, ya, yn, yt⟩, E⟩ := y
              have hyt : yt.length ≤ 1000000 := by have := loadU_len l; rw [hy] at this; exact this
              obtain ⟨ns, hns⟩ : ∃ ns, p3.1.map Fv.n = ns := ⟨_, rfl⟩
              have hnsl : ns.length ≤ 1000000 := by rw [← hns, List.length_map]; have := HS3.out.1.al.sd.good.len; omega
              have HLo : Hid (∀ W, Sv w1 W db mb rb rb z (8 * k + 8) (8 * k + 8) fs3 p3 F3 p3 → Calls Tryz.prog 28 #[.pointer (some ⟨db, 0, none⟩), .string mN] W fun e w' => ∃ A3 m3 c3, e = .returned (.tuple #[staV yg ya yn (.slice A3 m3 c3), .int .i64 E]) ∧ Hid (SlI w' (.slice A3 m3 c3) yt) ∧ Below W.heap.size W w') := fun W h => by
                refine (load9_any h.al.sd (by rw [hl]; omega)).mono ?_
                intro e w' h2
                have h3 := ld_u h2
                rw [hl, hy] at h3
                exact h3
              have HLd : Hid (∀ W, Sv w1 W db mb rb rb z (8 * k + 8) (8 * k + 8) fs3 p3 F3 p3 → Calls Tryz.prog 29 #[.pointer (some ⟨rb, 0, none⟩), .string mN] W fun e w' => ∃ A3 m3 c3, e = .returned (.tuple #[staV yg ya yn (.slice A3 m3 c3), .int .i64 E]) ∧ Hid (SlI w' (.slice A3 m3 c3) yt) ∧ Below W.heap.size W w') := fun W h => by
                refine (rload9_any h.rd (by omega) hsz (by rw [hl]; omega)).mono ?_
                intro e w' h2
                have h3 := ld_u h2
                rw [hl, hy] at h3
                exact h3
              have HRo : Hid (∀ W, Sv w1 W db mb rb rb z (8 * k + 8) (8 * k + 8) fs3 p3 F3 p3 → Calls Tryz.prog 30 #[.pointer (some ⟨db, 0, none⟩), .string mN] W fun e w' => ∃ A3 c3 o3, e = .returned (.tuple #[.slice A3 nl c3, .bool o3]) ∧ Hid (SlA w' (.slice A3 nl c3) l) ∧ Below W.heap.size W w') := fun W h => by
                refine (read9m h.al.sd (by rw [hl]; omega)).mono ?_
                rintro e w' ⟨v3, o3, rfl, h3, h4⟩
                rw [hl] at h3
                have h5 := h3.sla
                obtain ⟨A3, c3, rfl, _⟩ := id h5
                rw [hnl] at h5 ⊢
                exact ⟨A3, c3, o3, rfl, h5, h4⟩
              have HRd : Hid (∀ W, Sv w1 W db mb rb rb z (8 * k + 8) (8 * k + 8) fs3 p3 F3 p3 → Calls Tryz.prog 31 #[.pointer (some ⟨rb, 0, none⟩), .string mN] W fun e w' => ∃ A3 c3 o3, e = .returned (.tuple #[.slice A3 nl c3, .bool o3]) ∧ Hid (SlA w' (.slice A3 nl c3) l) ∧ Below W.heap.size W w') := fun W h => by
                refine (rread9m h.rd (by omega) hsz).mono ?_
                rintro e w' ⟨v3, o3, rfl, h3, h4⟩
                rw [hl] at h3
                have h5 := h3.sla
                obtain ⟨A3, c3, rfl, _⟩ := id h5
                rw [hnl] at h5 ⊢
                exact ⟨A3, c3, o3, rfl, h5, h4⟩
              have HNo : Hid (∀ W, Sv w1 W db mb rb rb z (8 * k + 8) (8 * k + 8) fs3 p3 F3 p3 → Calls Tryz.prog 33 #[.pointer (some ⟨db, 0, none⟩)] W fun e w' => ∃ A3 m3 c3, e = .returned (.slice A3 m3 c3) ∧ Hid (STx w' (.slice A3 m3 c3) ns) ∧ Below W.heap.size W w') := fun W h => by
                refine (names_ok h.al.sd.dk (by have h5 := h.al.sd.good.len; rw [← h.al.sd.v, List.length_map] at h5; omega)).mono ?_
                rintro e w' ⟨v3, rfl, h3, h4⟩
                have h5 := srow_stx h3
                rw [show fs3.map Fl.n = ns by rw [← hns, ← h.al.sd.v, List.map_map]; rfl] at h5
                obtain ⟨A3, c3, rfl, _⟩ := id h5
                exact ⟨A3, _, c3, rfl, h5, h4⟩
              have HNd : Hid (∀ W, Sv w1 W db mb rb rb z (8 * k + 8) (8 * k + 8) fs3 p3 F3 p3 → Calls Tryz.prog 34 #[.pointer (some ⟨rb, 0, none⟩)] W fun e w' => ∃ A3 m3 c3, e = .returned (.slice A3 m3 c3) ∧ Hid (STx w' (.slice A3 m3 c3) ns) ∧ Below W.heap.size W w') := fun W h => by
                refine (rnames9 h.rd (by omega) hsz).mono ?_
                rintro e w' ⟨v3, rfl, h3, h4⟩
                have h5 := srow_stx h3
                rw [hns] at h5
                obtain ⟨A3, c3, rfl, _⟩ := id h5
                exact ⟨A3, _, c3, rfl, h5, h4⟩
              have HSm : Hid (∀ W v1 v2, SlI W v1 yt → SlI W v2 yt → Calls Tryz.prog 18 #[staV yg ya yn v1, staV yg ya yn v2] W fun e w' => e = .returned (.bool true) ∧ Below W.heap.size W w') := fun W v1 v2 h1 h2 => by
                have := lsame_any ⟨yg, ya, yn, yt⟩ ⟨yg, ya, yn, yt⟩ v1 v2 W h1 h2 hyt hyt
                rwa [same_ok] at this
              have HSb : Hid (∀ W v1 v2, SlA W v1 l → SlA W v2 l → Calls Tryz.prog 17 #[v1, v2] W fun e w' => e = .returned (.bool true) ∧ Below W.heap.size W w') := fun W v1 v2 h1 h2 => by
                have := same_sla v1 v2 l l (by omega) W h1 h2
                rwa [decide_eq_true rfl] at this
              have HSt : Hid (∀ W v1 v2, STx W v1 ns → STx W v2 ns → Calls Tryz.prog 32 #[v1, v2] W fun e w' => e = .returned (.bool true) ∧ Below W.heap.size W w') := fun W v1 v2 h1 h2 => samet_ok v1 v2 ns hnsl W h1 h2
              have hEb : (E != E) = false := by simp
              clear hl hy hns hyt hnsl hl9 hsz hnl
              go_upto_region 23 with (go_at_call 28; refine (HLo.out _ HS3.out.1).mono ?_; rintro e v1 ⟨A4, m4, c4, rfl, HV4, hb4⟩)
              have e4 := below_new v1 (.cells #[.int .i64 yg, .int .i64 ya, .int .i64 yn, .slice A4 m4 c4] 29)
              have HX4 := hid (Blk.new v1 29 #[.int .i64 yg, .int .i64 ya, .int .i64 yn, .slice A4 m4 c4])
              have HG4 := hid (And.intro ((HS3.out.1.below hb4).below e4) (HV4.out.below e4))
              obtain ⟨b4, hq4⟩ : ∃ b, v1.heap.size = b := ⟨_, rfl⟩
              obtain ⟨V4, hV4⟩ : ∃ W, v1.alloc (.cells #[.int .i64 yg, .int .i64 ya, .int .i64 yn, .slice A4 m4 c4] 29) = W := ⟨_, rfl⟩
              rw [hV4, hq4] at HX4
              rw [hV4] at HG4 ⊢
              rw [hq4]
              clear hV4 hq4 e4 hb4 HV4 HLo
              go_upto_region 24 with (go_at_call 29; refine (HLd.out _ HG4.out.1).mono ?_; rintro e v2 ⟨A5, m5, c5, rfl, HV5, hb5⟩)
              have e5 := below_new v2 (.cells #[.int .i64 yg, .int .i64 ya, .int .i64 yn, .slice A5 m5 c5] 24)
              have HX5 := hid (Blk.new v2 24 #[.int .i64 yg, .int .i64 ya, .int .i64 yn, .slice A5 m5 c5])
              have HY5 := hid ((HX4.out.keep hb5 HX4.out.lt).keep e5 (HX4.out.keep hb5 HX4.out.lt).lt)
              have HG5 := hid (And.intro ((HG4.out.1.below hb5).below e5) (And.intro ((HG4.out.2.below hb5).below e5) (HV5.out.below e5)))
              obtain ⟨b5, hq5⟩ : ∃ b, v2.heap.size = b := ⟨_, rfl⟩
              obtain ⟨V5, hV5⟩ : ∃ W, v2.alloc (.cells #[.int .i64 yg, .int .i64 ya, .int .i64 yn, .slice A5 m5 c5] 24) = W := ⟨_, rfl⟩
              rw [hV5, hq5] at HX5
              rw [hV5] at HG5 HY5 ⊢
              rw [hq5]
              clear hV5 hq5 e5 hb5 HV5 HLd HG4 HX4
              go_upto_region 26 with (first
                | (go_at_call 30; refine (HRo.out _ HG5.out.1).mono ?_; rintro e v3 ⟨A6, c6, o6, rfl, HV6, hb6⟩; have HG6 := hid (HG5.out.1.below hb6))
                | (go_at_call 31; refine (HRd.out _ HG6.out).mono ?_; rintro e v4 ⟨A7, c7, o7, rfl, HV7, hb7⟩))
              have hb67 := hb6.trans (hb7.mono hb6.size)
              have HG7 := hid (And.intro (HG6.out.below hb7) (And.intro (HG5.out.2.1.below hb67) (And.intro (HG5.out.2.2.below hb67) (And.intro (HV6.out.below hb7) HV7.out))))
              have x0 : v4.cell? ⟨b4, 0, Option.none⟩ = some _ := (HY5.out.keep hb67 HY5.out.lt).cell 0
              have x1 : v4.cell? ⟨b4, 1, Option.none⟩ = some _ := (HY5.out.keep hb67 HY5.out.lt).cell 1
              have x2 : v4.cell? ⟨b4, 2, Option.none⟩ = some _ := (HY5.out.keep hb67 HY5.out.lt).cell 2
              have x3 : v4.cell? ⟨b4, 3, Option.none⟩ = some _ := (HY5.out.keep hb67 HY5.out.lt).cell 3
              have y0 : v4.cell? ⟨b5, 0, Option.none⟩ = some _ := (HX5.out.keep hb67 HX5.out.lt).cell 0
              have y1 : v4.cell? ⟨b5, 1, Option.none⟩ = some _ := (HX5.out.keep hb67 HX5.out.lt).cell 1
              have y2 : v4.cell? ⟨b5, 2, Option.none⟩ = some _ := (HX5.out.keep hb67 HX5.out.lt).cell 2
              have y3 : v4.cell? ⟨b5, 3, Option.none⟩ = some _ := (HX5.out.keep hb67 HX5.out.lt).cell 3
              clear hb6 hb7 hb67 HV6 HV7 HG6 HX5 HY5 HG5 HRo HRd
              go_wp2_with (first
                | (go_at_call 18; refine (HSm.out _ _ _ HG7.out.2.1 HG7.out.2.2.1).mono ?_; rintro e v5 ⟨rfl, hb8⟩)
                | (go_at_call 17; refine (HSb.out _ _ _ (HG7.out.2.2.2.1.below hb8) (HG7.out.2.2.2.2.below hb8)).mono ?_; rintro e v6 ⟨rfl, hb9⟩; have HG9 := hid ((HG7.out.1.below hb8).below hb9))
                | (go_at_call 33; refine (HNo.out _ HG9.out).mono ?_; rintro e v7 ⟨A10, m10, c10, rfl, HV10, hb10⟩; have HG10 := hid (HG9.out.below hb10))
                | (go_at_call 34; refine (HNd.out _ HG10.out).mono ?_; rintro e v8 ⟨A11, m11, c11, rfl, HV11, hb11⟩; have HG11 := hid (HG10.out.below hb11))
                | (go_at_call 32; refine (HSt.out _ _ _ (HV10.out.below hb11) HV11.out).mono ?_; rintro e v9 ⟨rfl, hb12⟩))
              go_roundw
              case rel => exact ⟨k + 1, fs3, p3, F3, by go_num, by omega, (HG11.out.below hb12).upto (by omega) (by omega), HS3.out.2⟩
              case measure => simp [intOf]; omega
          · go_upto_region 19 with (fail)
            refine wp_ltc (fun W => ∃ fs F p, Hid (Sv w1 W db mb rb rb z (8 * k + 7) (8 * k + 7) fs p F p ∧ Bd p.1 (2546 + wgt (js.take (k + 1))) 2047)) ⟨_, _, p1, HS1.out.upto (by omega) (by omega), HBd1.out.mono (by have := wgt_up js k; omega) (Nat.le_refl _)⟩ ?_
            rintro W2 ⟨fs2, F2, p2, HS2⟩
            clear HBd1 HS1
            by_cases hcn : k < nc
            · have hkl2 : k < ks.length := by rw [HNc.out]; exact hcn
              obtain ⟨Ac2, cc2, ek, _, _, hIA, _⟩ := HC0.out
              obtain ⟨b3, o3, eb3, hI⟩ := hIA (by omega)
              rw [eb3] at ek
              injection ek with ek1 ek2 ek3
              subst ek1
              clear ek2 ek3
              have hcell := hI k hkl2
              obtain ⟨K, hK⟩ : ∃ K, ks.getD k 0 = K := ⟨_, rfl⟩
              rw [hK] at hcell
              have hKb : -9223372036854775808 ≤ K ∧ K < 9223372036854775808 := by
                refine HKb.out K ?_
                rw [← hK, List.getD_eq_getElem?_getD, List.getElem?_eq_getElem hkl2]
                exact List.getElem_mem hkl2
              have HKc : Hid (∀ W, Below w.heap.size w W → W.cell? ⟨b3, o3 + k, none⟩ = some (.int .i64 K)) := fun W hW => (hW.cell (p := ⟨b3, o3 + k, none⟩) (cell_lt hcell)).trans hcell
              have hz2 := HS2.out.2.size HS2.out.1.al.sd.good.ri
              have HCo := hid (crash_ours HS2.out.1 (by omega) hz HS2.out.2 K hKb.1 hKb.2)
              have HCd : Hid (∀ W fs3 p3, SvC w1 W db mb rb rb z (8 * k + 7 + 1) (8 * k + 7) fs3 p3 F2 p2 K → Calls Tryz.prog 27 #[.pointer (some ⟨rb, 0, none⟩), .int .i64 K] W fun e w' => ∃ F3, e = .returned (.tuple #[]) ∧ Hid (Sv w1 w' db mb rb rb z (8 * k + 7 + 1) (8 * k + 7 + 1) fs3 p3 F3 p3)) := fun W fs3 p3 h => crash_docs h (by omega) (by omega) hKb.1 hKb.2
              have d0 := HKc.out _ (HB1.out.trans (HS2.out.1.al.be.mono HB1.out.size))
              clear hcell hI hIA eb3 hK hKb hkl2
              go_upto_region 21 with (go_at_call 26; refine HCo.out.mono ?_; rintro e v1 ⟨fs3, p3, rfl, HC3⟩; clear d0; have d1 := HKc.out _ (HB1.out.trans (HC3.out.1.sv.al.be.mono HB1.out.size)))
              go_upto_region 22 with (go_at_call 27; refine (HCd.out _ _ _ HC3.out.1).mono ?_; rintro e v2 ⟨F3, rfl, HC4⟩)
              refine wp_ltc (fun W => ∃ fs F p, Hid (Sv w1 W db mb rb rb z (8 * k + 8) (8 * k + 8) fs p F p ∧ Bd p.1 (2546 + wgt (js.take (k + 1))) 2047)) ⟨_, _, p3, HC4.out.upto (by omega) (by omega), HC3.out.2⟩ ?_
              rintro W3 ⟨fs3, F3, p3, HS3⟩
              clear d1 HC3 HC4 HCo HCd HKc HS2
              obtain ⟨l, hl⟩ : ∃ l, rdM p3 = l := ⟨_, rfl⟩
              obtain ⟨nl, hnl⟩ : ∃ n, l.length = n := ⟨_, rfl⟩
              have hl9 : l.length ≤ 10000 := by rw [← hl]; have := HS3.out.2.rd; omega
              have hsz : sizeV p3.1 ≤ 90000 := by have := HS3.out.2.size HS3.out.1.al.sd.good.ri; omega
              obtain ⟨y, hy⟩ : ∃ y, loadU l = y := ⟨_, rfl⟩
              obtain ⟨⟨yg, ya, yn, yt⟩, E⟩ := y
              have hyt : yt.length ≤ 1000000 := by have := loadU_len l; rw [hy] at this; exact this
              obtain ⟨ns, hns⟩ : ∃ ns, p3.1.map Fv.n = ns := ⟨_, rfl⟩
              have hnsl : ns.length ≤ 1000000 := by rw [← hns, List.length_map]; have := HS3.out.1.al.sd.good.len; omega
              have HLo : Hid (∀ W, Sv w1 W db mb rb rb z (8 * k + 8) (8 * k + 8) fs3 p3 F3 p3 → Calls Tryz.prog 28 #[.pointer (some ⟨db, 0, none⟩), .string mN] W fun e w' => ∃ A3 m3 c3, e = .returned (.tuple #[staV yg ya yn (.slice A3 m3 c3), .int .i64 E]) ∧ Hid (SlI w' (.slice A3 m3 c3) yt) ∧ Below W.heap.size W w') := fun W h => by
                refine (load9_any h.al.sd (by rw [hl]; omega)).mono ?_
                intro e w' h2
                have h3 := ld_u h2
                rw [hl, hy] at h3
                exact h3
              have HLd : Hid (∀ W, Sv w1 W db mb rb rb z (8 * k + 8) (8 * k + 8) fs3 p3 F3 p3 → Calls Tryz.prog 29 #[.pointer (some ⟨rb, 0, none⟩), .string mN] W fun e w' => ∃ A3 m3 c3, e = .returned (.tuple #[staV yg ya yn (.slice A3 m3 c3), .int .i64 E]) ∧ Hid (SlI w' (.slice A3 m3 c3) yt) ∧ Below W.heap.size W w') := fun W h => by
                refine (rload9_any h.rd (by omega) hsz (by rw [hl]; omega)).mono ?_
                intro e w' h2
                have h3 := ld_u h2
                rw [hl, hy] at h3
                exact h3
              have HRo : Hid (∀ W, Sv w1 W db mb rb rb z (8 * k + 8) (8 * k + 8) fs3 p3 F3 p3 → Calls Tryz.prog 30 #[.pointer (some ⟨db, 0, none⟩), .string mN] W fun e w' => ∃ A3 c3 o3, e = .returned (.tuple #[.slice A3 nl c3, .bool o3]) ∧ Hid (SlA w' (.slice A3 nl c3) l) ∧ Below W.heap.size W w') := fun W h => by
                refine (read9m h.al.sd (by rw [hl]; omega)).mono ?_
                rintro e w' ⟨v3, o3, rfl, h3, h4⟩
                rw [hl] at h3
                have h5 := h3.sla
                obtain ⟨A3, c3, rfl, _⟩ := id h5
                rw [hnl] at h5 ⊢
                exact ⟨A3, c3, o3, rfl, h5, h4⟩
              have HRd : Hid (∀ W, Sv w1 W db mb rb rb z (8 * k + 8) (8 * k + 8) fs3 p3 F3 p3 → Calls Tryz.prog 31 #[.pointer (some ⟨rb, 0, none⟩), .string mN] W fun e w' => ∃ A3 c3 o3, e = .returned (.tuple #[.slice A3 nl c3, .bool o3]) ∧ Hid (SlA w' (.slice A3 nl c3) l) ∧ Below W.heap.size W w') := fun W h => by
                refine (rread9m h.rd (by omega) hsz).mono ?_
                rintro e w' ⟨v3, o3, rfl, h3, h4⟩
                rw [hl] at h3
                have h5 := h3.sla
                obtain ⟨A3, c3, rfl, _⟩ := id h5
                rw [hnl] at h5 ⊢
                exact ⟨A3, c3, o3, rfl, h5, h4⟩
              have HNo : Hid (∀ W, Sv w1 W db mb rb rb z (8 * k + 8) (8 * k + 8) fs3 p3 F3 p3 → Calls Tryz.prog 33 #[.pointer (some ⟨db, 0, none⟩)] W fun e w' => ∃ A3 m3 c3, e = .returned (.slice A3 m3 c3) ∧ Hid (STx w' (.slice A3 m3 c3) ns) ∧ Below W.heap.size W w') := fun W h => by
                refine (names_ok h.al.sd.dk (by have h5 := h.al.sd.good.len; rw [← h.al.sd.v, List.length_map] at h5; omega)).mono ?_
                rintro e w' ⟨v3, rfl, h3, h4⟩
                have h5 := srow_stx h3
                rw [show fs3.map Fl.n = ns by rw [← hns, ← h.al.sd.v, List.map_map]; rfl] at h5
                obtain ⟨A3, c3, rfl, _⟩ := id h5
                exact ⟨A3, _, c3, rfl, h5, h4⟩
              have HNd : Hid (∀ W, Sv w1 W db mb rb rb z (8 * k + 8) (8 * k + 8) fs3 p3 F3 p3 → Calls Tryz.prog 34 #[.pointer (some ⟨rb, 0, none⟩)] W fun e w' => ∃ A3 m3 c3, e = .returned (.slice A3 m3 c3) ∧ Hid (STx w' (.slice A3 m3 c3) ns) ∧ Below W.heap.size W w') := fun W h => by
                refine (rnames9 h.rd (by omega) hsz).mono ?_
                rintro e w' ⟨v3, rfl, h3, h4⟩
                have h5 := srow_stx h3
                rw [hns] at h5
                obtain ⟨A3, c3, rfl, _⟩ := id h5
                exact ⟨A3, _, c3, rfl, h5, h4⟩
              have HSm : Hid (∀ W v1 v2, SlI W v1 yt → SlI W v2 yt → Calls Tryz.prog 18 #[staV yg ya yn v1, staV yg ya yn v2] W fun e w' => e = .returned (.bool true) ∧ Below W.heap.size W w') := fun W v1 v2 h1 h2 => by
                have := lsame_any ⟨yg, ya, yn, yt⟩ ⟨yg, ya, yn, yt⟩ v1 v2 W h1 h2 hyt hyt
                rwa [same_ok] at this
              have HSb : Hid (∀ W v1 v2, SlA W v1 l → SlA W v2 l → Calls Tryz.prog 17 #[v1, v2] W fun e w' => e = .returned (.bool true) ∧ Below W.heap.size W w') := fun W v1 v2 h1 h2 => by
                have := same_sla v1 v2 l l (by omega) W h1 h2
                rwa [decide_eq_true rfl] at this
              have HSt : Hid (∀ W v1 v2, STx W v1 ns → STx W v2 ns → Calls Tryz.prog 32 #[v1, v2] W fun e w' => e = .returned (.bool true) ∧ Below W.heap.size W w') := fun W v1 v2 h1 h2 => samet_ok v1 v2 ns hnsl W h1 h2
              have hEb : (E != E) = false := by simp
              clear hl hy hns hyt hnsl hl9 hsz hnl
              go_upto_region 23 with (go_at_call 28; refine (HLo.out _ HS3.out.1).mono ?_; rintro e v1 ⟨A4, m4, c4, rfl, HV4, hb4⟩)
              have e4 := below_new v1 (.cells #[.int .i64 yg, .int .i64 ya, .int .i64 yn, .slice A4 m4 c4] 29)
              have HX4 := hid (Blk.new v1 29 #[.int .i64 yg, .int .i64 ya, .int .i64 yn, .slice A4 m4 c4])
              have HG4 := hid (And.intro ((HS3.out.1.below hb4).below e4) (HV4.out.below e4))
              obtain ⟨b4, hq4⟩ : ∃ b, v1.heap.size = b := ⟨_, rfl⟩
              obtain ⟨V4, hV4⟩ : ∃ W, v1.alloc (.cells #[.int .i64 yg, .int .i64 ya, .int .i64 yn, .slice A4 m4 c4] 29) = W := ⟨_, rfl⟩
              rw [hV4, hq4] at HX4
              rw [hV4] at HG4 ⊢
              rw [hq4]
              clear hV4 hq4 e4 hb4 HV4 HLo
              go_upto_region 24 with (go_at_call 29; refine (HLd.out _ HG4.out.1).mono ?_; rintro e v2 ⟨A5, m5, c5, rfl, HV5, hb5⟩)
              have e5 := below_new v2 (.cells #[.int .i64 yg, .int .i64 ya, .int .i64 yn, .slice A5 m5 c5] 24)
              have HX5 := hid (Blk.new v2 24 #[.int .i64 yg, .int .i64 ya, .int .i64 yn, .slice A5 m5 c5])
              have HY5 := hid ((HX4.out.keep hb5 HX4.out.lt).keep e5 (HX4.out.keep hb5 HX4.out.lt).lt)
              have HG5 := hid (And.intro ((HG4.out.1.below hb5).below e5) (And.intro ((HG4.out.2.below hb5).below e5) (HV5.out.below e5)))
              obtain ⟨b5, hq5⟩ : ∃ b, v2.heap.size = b := ⟨_, rfl⟩
              obtain ⟨V5, hV5⟩ : ∃ W, v2.alloc (.cells #[.int .i64 yg, .int .i64 ya, .int .i64 yn, .slice A5 m5 c5] 24) = W := ⟨_, rfl⟩
              rw [hV5, hq5] at HX5
              rw [hV5] at HG5 HY5 ⊢
              rw [hq5]
              clear hV5 hq5 e5 hb5 HV5 HLd HG4 HX4
              go_upto_region 26 with (first
                | (go_at_call 30; refine (HRo.out _ HG5.out.1).mono ?_; rintro e v3 ⟨A6, c6, o6, rfl, HV6, hb6⟩; have HG6 := hid (HG5.out.1.below hb6))
                | (go_at_call 31; refine (HRd.out _ HG6.out).mono ?_; rintro e v4 ⟨A7, c7, o7, rfl, HV7, hb7⟩))
              have hb67 := hb6.trans (hb7.mono hb6.size)
              have HG7 := hid (And.intro (HG6.out.below hb7) (And.intro (HG5.out.2.1.below hb67) (And.intro (HG5.out.2.2.below hb67) (And.intro (HV6.out.below hb7) HV7.out))))
              have x0 : v4.cell? ⟨b4, 0, Option.none⟩ = some _ := (HY5.out.keep hb67 HY5.out.lt).cell 0
              have x1 : v4.cell? ⟨b4, 1, Option.none⟩ = some _ := (HY5.out.keep hb67 HY5.out.lt).cell 1
              have x2 : v4.cell? ⟨b4, 2, Option.none⟩ = some _ := (HY5.out.keep hb67 HY5.out.lt).cell 2
              have x3 : v4.cell? ⟨b4, 3, Option.none⟩ = some _ := (HY5.out.keep hb67 HY5.out.lt).cell 3
              have y0 : v4.cell? ⟨b5, 0, Option.none⟩ = some _ := (HX5.out.keep hb67 HX5.out.lt).cell 0
              have y1 : v4.cell? ⟨b5, 1, Option.none⟩ = some _ := (HX5.out.keep hb67 HX5.out.lt).cell 1
              have y2 : v4.cell? ⟨b5, 2, Option.none⟩ = some _ := (HX5.out.keep hb67 HX5.out.lt).cell 2
              have y3 : v4.cell? ⟨b5, 3, Option.none⟩ = some _ := (HX5.out.keep hb67 HX5.out.lt).cell 3
              clear hb6 hb7 hb67 HV6 HV7 HG6 HX5 HY5 HG5 HRo HRd
              go_wp2_with (first
                | (go_at_call 18; refine (HSm.out _ _ _ HG7.out.2.1 HG7.out.2.2.1).mono ?_; rintro e v5 ⟨rfl, hb8⟩)
                | (go_at_call 17; refine (HSb.out _ _ _ (HG7.out.2.2.2.1.below hb8) (HG7.out.2.2.2.2.below hb8)).mono ?_; rintro e v6 ⟨rfl, hb9⟩; have HG9 := hid ((HG7.out.1.below hb8).below hb9))
                | (go_at_call 33; refine (HNo.out _ HG9.out).mono ?_; rintro e v7 ⟨A10, m10, c10, rfl, HV10, hb10⟩; have HG10 := hid (HG9.out.below hb10))
                | (go_at_call 34; refine (HNd.out _ HG10.out).mono ?_; rintro e v8 ⟨A11, m11, c11, rfl, HV11, hb11⟩; have HG11 := hid (HG10.out.below hb11))
                | (go_at_call 32; refine (HSt.out _ _ _ (HV10.out.below hb11) HV11.out).mono ?_; rintro e v9 ⟨rfl, hb12⟩))
              go_roundw
              case rel => exact ⟨k + 1, fs3, p3, F3, by go_num, by omega, (HG11.out.below hb12).upto (by omega) (by omega), HS3.out.2⟩
              case measure => simp [intOf]; omega
            · go_upto_region 22 with (fail)
              refine wp_ltc (fun W => ∃ fs F p, Hid (Sv w1 W db mb rb rb z (8 * k + 8) (8 * k + 8) fs p F p ∧ Bd p.1 (2546 + wgt (js.take (k + 1))) 2047)) ⟨_, _, p2, HS2.out.1.upto (by omega) (by omega), HS2.out.2⟩ ?_
              rintro W3 ⟨fs3, F3, p3, HS3⟩
              clear HS2
              obtain ⟨l, hl⟩ : ∃ l, rdM p3 = l := ⟨_, rfl⟩
              obtain ⟨nl, hnl⟩ : ∃ n, l.length = n := ⟨_, rfl⟩
              have hl9 : l.length ≤ 10000 := by rw [← hl]; have := HS3.out.2.rd; omega
              have hsz : sizeV p3.1 ≤ 90000 := by have := HS3.out.2.size HS3.out.1.al.sd.good.ri; omega
              obtain ⟨y, hy⟩ : ∃ y, loadU l = y := ⟨_, rfl⟩
              obtain ⟨⟨yg, ya, yn, yt⟩, E⟩ := y
              have hyt : yt.length ≤ 1000000 := by have := loadU_len l; rw [hy] at this; exact this
              obtain ⟨ns, hns⟩ : ∃ ns, p3.1.map Fv.n = ns := ⟨_, rfl⟩
              have hnsl : ns.length ≤ 1000000 := by rw [← hns, List.length_map]; have := HS3.out.1.al.sd.good.len; omega
              have HLo : Hid (∀ W, Sv w1 W db mb rb rb z (8 * k + 8) (8 * k + 8) fs3 p3 F3 p3 → Calls Tryz.prog 28 #[.pointer (some ⟨db, 0, none⟩), .string mN] W fun e w' => ∃ A3 m3 c3, e = .returned (.tuple #[staV yg ya yn (.slice A3 m3 c3), .int .i64 E]) ∧ Hid (SlI w' (.slice A3 m3 c3) yt) ∧ Below W.heap.size W w') := fun W h => by
                refine (load9_any h.al.sd (by rw [hl]; omega)).mono ?_
                intro e w' h2
                have h3 := ld_u h2
                rw [hl, hy] at h3
                exact h3
              have HLd : Hid (∀ W, Sv w1 W db mb rb rb z (8 * k + 8) (8 * k + 8) fs3 p3 F3 p3 → Calls Tryz.prog 29 #[.pointer (some ⟨rb, 0, none⟩), .string mN] W fun e w' => ∃ A3 m3 c3, e = .returned (.tuple #[staV yg ya yn (.slice A3 m3 c3), .int .i64 E]) ∧ Hid (SlI w' (.slice A3 m3 c3) yt) ∧ Below W.heap.size W w') := fun W h => by
                refine (rload9_any h.rd (by omega) hsz (by rw [hl]; omega)).mono ?_
                intro e w' h2
                have h3 := ld_u h2
                rw [hl, hy] at h3
                exact h3
              have HRo : Hid (∀ W, Sv w1 W db mb rb rb z (8 * k + 8) (8 * k + 8) fs3 p3 F3 p3 → Calls Tryz.prog 30 #[.pointer (some ⟨db, 0, none⟩), .string mN] W fun e w' => ∃ A3 c3 o3, e = .returned (.tuple #[.slice A3 nl c3, .bool o3]) ∧ Hid (SlA w' (.slice A3 nl c3) l) ∧ Below W.heap.size W w') := fun W h => by
                refine (read9m h.al.sd (by rw [hl]; omega)).mono ?_
                rintro e w' ⟨v3, o3, rfl, h3, h4⟩
                rw [hl] at h3
                have h5 := h3.sla
                obtain ⟨A3, c3, rfl, _⟩ := id h5
                rw [hnl] at h5 ⊢
                exact ⟨A3, c3, o3, rfl, h5, h4⟩
              have HRd : Hid (∀ W, Sv w1 W db mb rb rb z (8 * k + 8) (8 * k + 8) fs3 p3 F3 p3 → Calls Tryz.prog 31 #[.pointer (some ⟨rb, 0, none⟩), .string mN] W fun e w' => ∃ A3 c3 o3, e = .returned (.tuple #[.slice A3 nl c3, .bool o3]) ∧ Hid (SlA w' (.slice A3 nl c3) l) ∧ Below W.heap.size W w') := fun W h => by
                refine (rread9m h.rd (by omega) hsz).mono ?_
                rintro e w' ⟨v3, o3, rfl, h3, h4⟩
                rw [hl] at h3
                have h5 := h3.sla
                obtain ⟨A3, c3, rfl, _⟩ := id h5
                rw [hnl] at h5 ⊢
                exact ⟨A3, c3, o3, rfl, h5, h4⟩
              have HNo : Hid (∀ W, Sv w1 W db mb rb rb z (8 * k + 8) (8 * k + 8) fs3 p3 F3 p3 → Calls Tryz.prog 33 #[.pointer (some ⟨db, 0, none⟩)] W fun e w' => ∃ A3 m3 c3, e = .returned (.slice A3 m3 c3) ∧ Hid (STx w' (.slice A3 m3 c3) ns) ∧ Below W.heap.size W w') := fun W h => by
                refine (names_ok h.al.sd.dk (by have h5 := h.al.sd.good.len; rw [← h.al.sd.v, List.length_map] at h5; omega)).mono ?_
                rintro e w' ⟨v3, rfl, h3, h4⟩
                have h5 := srow_stx h3
                rw [show fs3.map Fl.n = ns by rw [← hns, ← h.al.sd.v, List.map_map]; rfl] at h5
                obtain ⟨A3, c3, rfl, _⟩ := id h5
                exact ⟨A3, _, c3, rfl, h5, h4⟩
              have HNd : Hid (∀ W, Sv w1 W db mb rb rb z (8 * k + 8) (8 * k + 8) fs3 p3 F3 p3 → Calls Tryz.prog 34 #[.pointer (some ⟨rb, 0, none⟩)] W fun e w' => ∃ A3 m3 c3, e = .returned (.slice A3 m3 c3) ∧ Hid (STx w' (.slice A3 m3 c3) ns) ∧ Below W.heap.size W w') := fun W h => by
                refine (rnames9 h.rd (by omega) hsz).mono ?_
                rintro e w' ⟨v3, rfl, h3, h4⟩
                have h5 := srow_stx h3
                rw [hns] at h5
                obtain ⟨A3, c3, rfl, _⟩ := id h5
                exact ⟨A3, _, c3, rfl, h5, h4⟩
              have HSm : Hid (∀ W v1 v2, SlI W v1 yt → SlI W v2 yt → Calls Tryz.prog 18 #[staV yg ya yn v1, staV yg ya yn v2] W fun e w' => e = .returned (.bool true) ∧ Below W.heap.size W w') := fun W v1 v2 h1 h2 => by
                have := lsame_any ⟨yg, ya, yn, yt⟩ ⟨yg, ya, yn, yt⟩ v1 v2 W h1 h2 hyt hyt
                rwa [same_ok] at this
              have HSb : Hid (∀ W v1 v2, SlA W v1 l → SlA W v2 l → Calls Tryz.prog 17 #[v1, v2] W fun e w' => e = .returned (.bool true) ∧ Below W.heap.size W w') := fun W v1 v2 h1 h2 => by
                have := same_sla v1 v2 l l (by omega) W h1 h2
                rwa [decide_eq_true rfl] at this
              have HSt : Hid (∀ W v1 v2, STx W v1 ns → STx W v2 ns → Calls Tryz.prog 32 #[v1, v2] W fun e w' => e = .returned (.bool true) ∧ Below W.heap.size W w') := fun W v1 v2 h1 h2 => samet_ok v1 v2 ns hnsl W h1 h2
              have hEb : (E != E) = false := by simp
              clear hl hy hns hyt hnsl hl9 hsz hnl
              go_upto_region 23 with (go_at_call 28; refine (HLo.out _ HS3.out.1).mono ?_; rintro e v1 ⟨A4, m4, c4, rfl, HV4, hb4⟩)
              have e4 := below_new v1 (.cells #[.int .i64 yg, .int .i64 ya, .int .i64 yn, .slice A4 m4 c4] 29)
              have HX4 := hid (Blk.new v1 29 #[.int .i64 yg, .int .i64 ya, .int .i64 yn, .slice A4 m4 c4])
              have HG4 := hid (And.intro ((HS3.out.1.below hb4).below e4) (HV4.out.below e4))
              obtain ⟨b4, hq4⟩ : ∃ b, v1.heap.size = b := ⟨_, rfl⟩
              obtain ⟨V4, hV4⟩ : ∃ W, v1.alloc (.cells #[.int .i64 yg, .int .i64 ya, .int .i64 yn, .slice A4 m4 c4] 29) = W := ⟨_, rfl⟩
              rw [hV4, hq4] at HX4
              rw [hV4] at HG4 ⊢
              rw [hq4]
              clear hV4 hq4 e4 hb4 HV4 HLo
              go_upto_region 24 with (go_at_call 29; refine (HLd.out _ HG4.out.1).mono ?_; rintro e v2 ⟨A5, m5, c5, rfl, HV5, hb5⟩)
              have e5 := below_new v2 (.cells #[.int .i64 yg, .int .i64 ya, .int .i64 yn, .slice A5 m5 c5] 24)
              have HX5 := hid (Blk.new v2 24 #[.int .i64 yg, .int .i64 ya, .int .i64 yn, .slice A5 m5 c5])
              have HY5 := hid ((HX4.out.keep hb5 HX4.out.lt).keep e5 (HX4.out.keep hb5 HX4.out.lt).lt)
              have HG5 := hid (And.intro ((HG4.out.1.below hb5).below e5) (And.intro ((HG4.out.2.below hb5).below e5) (HV5.out.below e5)))
              obtain ⟨b5, hq5⟩ : ∃ b, v2.heap.size = b := ⟨_, rfl⟩
              obtain ⟨V5, hV5⟩ : ∃ W, v2.alloc (.cells #[.int .i64 yg, .int .i64 ya, .int .i64 yn, .slice A5 m5 c5] 24) = W := ⟨_, rfl⟩
              rw [hV5, hq5] at HX5
              rw [hV5] at HG5 HY5 ⊢
              rw [hq5]
              clear hV5 hq5 e5 hb5 HV5 HLd HG4 HX4
              go_upto_region 26 with (first
                | (go_at_call 30; refine (HRo.out _ HG5.out.1).mono ?_; rintro e v3 ⟨A6, c6, o6, rfl, HV6, hb6⟩; have HG6 := hid (HG5.out.1.below hb6))
                | (go_at_call 31; refine (HRd.out _ HG6.out).mono ?_; rintro e v4 ⟨A7, c7, o7, rfl, HV7, hb7⟩))
              have hb67 := hb6.trans (hb7.mono hb6.size)
              have HG7 := hid (And.intro (HG6.out.below hb7) (And.intro (HG5.out.2.1.below hb67) (And.intro (HG5.out.2.2.below hb67) (And.intro (HV6.out.below hb7) HV7.out))))
              have x0 : v4.cell? ⟨b4, 0, Option.none⟩ = some _ := (HY5.out.keep hb67 HY5.out.lt).cell 0
              have x1 : v4.cell? ⟨b4, 1, Option.none⟩ = some _ := (HY5.out.keep hb67 HY5.out.lt).cell 1
              have x2 : v4.cell? ⟨b4, 2, Option.none⟩ = some _ := (HY5.out.keep hb67 HY5.out.lt).cell 2
              have x3 : v4.cell? ⟨b4, 3, Option.none⟩ = some _ := (HY5.out.keep hb67 HY5.out.lt).cell 3
              have y0 : v4.cell? ⟨b5, 0, Option.none⟩ = some _ := (HX5.out.keep hb67 HX5.out.lt).cell 0
              have y1 : v4.cell? ⟨b5, 1, Option.none⟩ = some _ := (HX5.out.keep hb67 HX5.out.lt).cell 1
              have y2 : v4.cell? ⟨b5, 2, Option.none⟩ = some _ := (HX5.out.keep hb67 HX5.out.lt).cell 2
              have y3 : v4.cell? ⟨b5, 3, Option.none⟩ = some _ := (HX5.out.keep hb67 HX5.out.lt).cell 3
              clear hb6 hb7 hb67 HV6 HV7 HG6 HX5 HY5 HG5 HRo HRd
              go_wp2_with (first
                | (go_at_call 18; refine (HSm.out _ _ _ HG7.out.2.1 HG7.out.2.2.1).mono ?_; rintro e v5 ⟨rfl, hb8⟩)
                | (go_at_call 17; refine (HSb.out _ _ _ (HG7.out.2.2.2.1.below hb8) (HG7.out.2.2.2.2.below hb8)).mono ?_; rintro e v6 ⟨rfl, hb9⟩; have HG9 := hid ((HG7.out.1.below hb8).below hb9))
                | (go_at_call 33; refine (HNo.out _ HG9.out).mono ?_; rintro e v7 ⟨A10, m10, c10, rfl, HV10, hb10⟩; have HG10 := hid (HG9.out.below hb10))
                | (go_at_call 34; refine (HNd.out _ HG10.out).mono ?_; rintro e v8 ⟨A11, m11, c11, rfl, HV11, hb11⟩; have HG11 := hid (HG10.out.below hb11))
                | (go_at_call 32; refine (HSt.out _ _ _ (HV10.out.below hb11) HV11.out).mono ?_; rintro e v9 ⟨rfl, hb12⟩))
              go_roundw
              case rel => exact ⟨k + 1, fs3, p3, F3, by go_num, by omega, (HG11.out.below hb12).upto (by omega) (by omega), HS3.out.2⟩
              case measure => simp [intOf]; omega)
    · go_wp2
      go_ret
      exact ⟨rfl, HB1.out.trans (HL.out.1.al.be.mono HB1.out.size)⟩
end Go.Proofs.YtofkfafdodhmdaaGreatDoor
