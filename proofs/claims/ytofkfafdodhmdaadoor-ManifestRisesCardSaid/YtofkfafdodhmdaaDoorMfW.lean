/- The law ManifestRises at every state and number: true. Conditions: the slice holds its ints. -/
import Derived.Test.YtofkfafdodhmdaaDoorNG
import Derived.Test.YtofkfafdodhmdaaDoorMfSa
import Derived.Test.YtofkfafdodhmdaaDoorMfTa
import Derived.Test.YtofkfafdodhmdaaDoorStCs
namespace Go.Proofs.YtofkfafdodhmdaaDoor
open Go.RowKit

set_option maxRecDepth 100000 in
set_option maxHeartbeats 16000000 in
theorem rises_any (s : Sta) (v : Value) (gen : Int) (w : World) (hv : SlI w v s.t) (hgn : -9223372036854775808 ≤ gen ∧ gen < 9223372036854775808) :
    Calls Tryd.prog 6 #[staV s.g s.a s.n v, .int .i64 gen] w fun e w' => e = .returned (.bool true) ∧ Below w.heap.size w w' := by
  have HAl : Hid (∀ W, Calls Tryd.prog 20 #[] W fun e w' => e = .returned (.bool true) ∧ Below W.heap.size W w') := fun W => alive9_any W
  by_cases hbig : 60 < s.t.length
  · obtain ⟨A, c, e1, _⟩ := hv
    obtain ⟨g, a, n, t⟩ := s
    dsimp only at e1 hbig ⊢
    subst e1
    generalize t.length = m at *
    clear hgn
    go_enter Tryd.func6, Tryd.ntmps6
    go_upto_region 3 with (go_at_call 20; refine (HAl.out _).mono ?_; rintro e w1 ⟨rfl, hb1⟩; have HX1 := hid (bx_keep hb1); have z3 : w1.cell? ⟨w.heap.size, 3, Option.none⟩ = some (.slice A m c) := HX1.out.1.cell 3)
    go_wp2
    go_ret
    exact ⟨rfl, HX1.out.2⟩
  have hb1 : s.t.length ≤ 60 := by omega
  have HOf : Hid (∀ W, Below w.heap.size w W → Calls Tryd.prog 24 #[staV s.g s.a s.n v] W fun e w' => ∃ A3 m3 c3, e = .returned (staV s.g s.a s.n (.slice A3 m3 c3)) ∧ Hid (SlI w' (.slice A3 m3 c3) s.t) ∧ Below W.heap.size W w') := fun W hW => by
    refine (of9_any s v W (hv.below hW) (by omega)).mono ?_
    rintro e w' ⟨v', rfl, hI, hb⟩
    obtain ⟨A3, c3, rfl, _⟩ := id hI
    exact ⟨A3, _, c3, rfl, hI, hb⟩
  have HRt : Hid (∀ W, Below w.heap.size w W → Calls Tryd.prog 22 #[staV s.g s.a s.n v] W fun e w' => e = .returned (.bool s.right) ∧ Below W.heap.size W w') := fun W hW => rright_any s v W (hv.below hW)
  have HN : Hid (∀ W, Calls Tryd.prog 21 #[.int .i64 5000] W fun e w' => e = .returned (.tuple #[.pointer (some ⟨W.heap.size + 1, 0, none⟩), .int .i64 0]) ∧ Hid (Al W w' (W.heap.size + 1) W.heap.size 5000 0 [] ([], 0))) := fun W => Al.new 5000 (by decide) (by decide)
  cases hr : s.right with
  | false =>
    rw [hr] at HRt
    have e1 := pSave_bad s hr 5000 ([], 0)
    have HS : Hid (∀ M W v2, Al M W (M.heap.size + 1) M.heap.size 5000 0 [] ([], 0) → SlI W v2 s.t → Calls Tryd.prog 23 #[.pointer (some ⟨M.heap.size + 1, 0, none⟩), .string mN, staV s.g s.a s.n v2] W fun e w' => ∃ fs1, e = .returned (.int .i64 10) ∧ Hid (Al M w' (M.heap.size + 1) M.heap.size 5000 6 fs1 ([], 0))) := fun M W v2 h h2 =>
      h.save (by omega) (by decide) s v2 h2 (by show ([] : List UInt8).length ≤ _; simp) e1
    have HSz : Hid (∀ M W fs1, Al M W (M.heap.size + 1) M.heap.size 5000 6 fs1 ([], 0) → Calls Tryd.prog 25 #[.pointer (some ⟨M.heap.size + 1, 0, none⟩)] W fun e w' => e = .returned (.int .i64 0) ∧ Below W.heap.size W w') := fun M W fs1 h => by
      have h0 : fs1 = [] := List.eq_nil_of_length_eq_zero (by have := congrArg List.length h.sd.v; rwa [show (viewF fs1).length = fs1.length from List.length_map _] at this)
      subst h0
      exact size_ok h.sd.dk
    clear hr e1
    obtain ⟨A, c, e1, _⟩ := hv
    obtain ⟨g, a, n, t⟩ := s
    dsimp only at e1 hb1 HOf HRt HS ⊢
    subst e1
    obtain ⟨m, hm⟩ : ∃ m, t.length = m := ⟨_, rfl⟩
    rw [hm] at hb1 HOf HRt ⊢
    clear hm hbig hgn
    go_enter Tryd.func6, Tryd.ntmps6
    go_upto_region 5 with (go_at_call 20; refine (HAl.out _).mono ?_; rintro e w1 ⟨rfl, hb1⟩; have HX1 := hid (bx_keep hb1); have z3 : w1.cell? ⟨w.heap.size, 3, Option.none⟩ = some (.slice A m c) := HX1.out.1.cell 3)
    clear HAl hb1
    go_upto_region 8 with (go_at_call 21; refine (HN.out _).mono ?_; rintro e w2 ⟨rfl, HA2⟩)
    have HX2 := hid (bx_go HX1.out HA2.out.be)
    have z0 : w2.cell? ⟨w.heap.size, 0, Option.none⟩ = some (.int .i64 g) := HX2.out.1.cell 0
    have z1 : w2.cell? ⟨w.heap.size, 1, Option.none⟩ = some (.int .i64 a) := HX2.out.1.cell 1
    have z2 : w2.cell? ⟨w.heap.size, 2, Option.none⟩ = some (.int .i64 n) := HX2.out.1.cell 2
    have z4 : w2.cell? ⟨w.heap.size, 3, Option.none⟩ = some (.slice A m c) := HX2.out.1.cell 3
    go_wp2_with (first
      | (go_at_call 22; refine (HRt.out _ HX2.out.2).mono ?_; rintro e w3 ⟨rfl, hb3⟩; have HX3 := hid (bx_go HX2.out hb3); have HA3 := hid (HA2.out.below hb3); have y0 : w3.cell? ⟨w.heap.size, 0, Option.none⟩ = some (.int .i64 g) := HX3.out.1.cell 0; have y1 : w3.cell? ⟨w.heap.size, 1, Option.none⟩ = some (.int .i64 a) := HX3.out.1.cell 1; have y2 : w3.cell? ⟨w.heap.size, 2, Option.none⟩ = some (.int .i64 n) := HX3.out.1.cell 2; have y3 : w3.cell? ⟨w.heap.size, 3, Option.none⟩ = some (.slice A m c) := HX3.out.1.cell 3)
      | (go_at_call 24; refine (HOf.out _ HX3.out.2).mono ?_; rintro e w4 ⟨A4, m4, c4, rfl, HV4, hb4⟩; have HA4 := hid (HA3.out.below hb4))
      | (go_at_call 23; refine (HS.out _ _ _ HA4.out HV4.out).mono ?_; rintro e w5 ⟨fs5, rfl, HA5⟩)
      | (go_at_call 25; refine (HSz.out _ _ _ HA5.out).mono ?_; rintro e w6 ⟨rfl, hb6⟩))
    go_ret
    exact ⟨rfl, HX1.out.2.trans ((HA5.out.be.mono HX1.out.2.size).trans (hb6.mono (Nat.le_trans HX1.out.2.size HA5.out.be.size)))⟩
  | true =>
    rw [hr] at HRt
    have hok := (Sta.right_iff _).1 hr
    have hfl := frame_le hr
    obtain ⟨nx, hnx⟩ : ∃ nx : Sta, nx = ⟨gen, s.a, s.n, s.t⟩ := ⟨_, rfl⟩
    obtain ⟨p1, ss1, e1, o1, n1, l1, _, x1⟩ := pSave_yes (onlyM_nil 0) s hr (fun h => absurd rfl h) 5000 (by have : (framesM (bodies [])).length = 0 := rfl; rw [this]; omega)
    have hs1 : ss1 = [s] := by rcases x1 with e | e <;> exact e
    subst hs1
    have hb11 : (framesM (bodies [s])).length = (frameM s.enc).length := by show (framesM [s.enc]).length = _; rw [framesM_one]
    have hg0 := hok.g0
    have hg1 := hok.g1
    obtain ⟨q, p2, y, N, e2, hrd, hl2, hq⟩ : ∃ q p2 y N, pSave nx 5000 p1 = (q, p2) ∧ readS (rdM p2) = some (y, N) ∧ (rdM p2).length ≤ 1000000 ∧ ((q = 0 ∧ y = nx ∧ gen = s.g + 1 ∧ nx.right = true) ∨ (q = 10 ∧ y = s ∧ (gen ≠ s.g + 1 ∨ (gen = s.g + 1 ∧ nx.right = false)))) := by
      by_cases hf : gen = s.g + 1 ∧ nx.right = true
      · have hfl2 := frame_le hf.2
        obtain ⟨p2, ss2, e2, o2, n2, l2, _, x2⟩ := pSave_yes o1 nx hf.2 (fun _ => by rw [hnx]; exact hf.1) 5000 (by rw [hb11]; omega)
        have hb2 : (framesM (bodies ss2)).length ≤ 1000 := by
          rcases x2 with e | e
          · rw [e]
            show (framesM (bodies [s] ++ [nx.enc])).length ≤ 1000
            rw [frames_app, List.length_append, hb11, framesM_one]
            omega
          · rw [e]
            show (framesM [nx.enc]).length ≤ 1000
            rw [framesM_one]
            omega
        exact ⟨0, p2, nx, _, e2, by rw [onlyM_rd o2, readS_whole ss2 o2.1, l2], by rw [onlyM_rd o2]; omega, .inl ⟨rfl, rfl, hf.1, hf.2⟩⟩
      · have h1 : readS (rdM p1) = some (s, (framesM (bodies [s])).length) := by rw [onlyM_rd o1, readS_whole [s] o1.1]; rfl
        have h2 : (rdM p1).length ≤ 1000000 := by rw [onlyM_rd o1, hb11]; omega
        by_cases hg : gen = s.g + 1
        · cases hn : nx.right with
          | true => exact absurd ⟨hg, hn⟩ hf
          | false => exact ⟨10, p1, s, _, pSave_bad nx hn 5000 p1, h1, h2, .inr ⟨rfl, rfl, .inr ⟨hg, rfl⟩⟩⟩
        · exact ⟨10, p1, s, _, pSave_gen o1 nx (by simp) (by rw [hnx]; exact hg) 5000, h1, h2, .inr ⟨rfl, rfl, .inl hg⟩⟩
    have hl1 : (rdM p1).length ≤ 1000000 := by rw [onlyM_rd o1, hb11]; omega
    have HS1 : Hid (∀ M W v2, Al M W (M.heap.size + 1) M.heap.size 5000 0 [] ([], 0) → SlI W v2 s.t → Calls Tryd.prog 23 #[.pointer (some ⟨M.heap.size + 1, 0, none⟩), .string mN, staV s.g s.a s.n v2] W fun e w' => ∃ fs1, e = .returned (.int .i64 0) ∧ Hid (Al M w' (M.heap.size + 1) M.heap.size 5000 6 fs1 p1 ∧ Mv W w' (M.heap.size + 1) M.heap.size [] fs1)) := fun M W v2 h h2 =>
      h.save2 (by omega) (by decide) s v2 h2 (by show ([] : List UInt8).length ≤ _; simp) e1
    have HS2 : Hid (∀ M W v2 fs1, Al M W (M.heap.size + 1) M.heap.size 5000 6 fs1 p1 → SlI W v2 s.t → Calls Tryd.prog 23 #[.pointer (some ⟨M.heap.size + 1, 0, none⟩), .string mN, staV gen s.a s.n v2] W fun e w' => ∃ fs2, e = .returned (.int .i64 q) ∧ Hid (Al M w' (M.heap.size + 1) M.heap.size 5000 12 fs2 p2 ∧ Mv W w' (M.heap.size + 1) M.heap.size fs1 fs2)) := fun M W v2 fs1 h h2 => by
      have := h.save2 (by omega) (by decide) nx v2 (by rw [hnx]; exact h2) hl1 e2
      rw [hnx] at this
      exact this
    have HL : Hid (∀ M W fs2, Al M W (M.heap.size + 1) M.heap.size 5000 12 fs2 p2 → Calls Tryd.prog 26 #[.pointer (some ⟨M.heap.size + 1, 0, none⟩), .string mN] W fun e w' => ∃ A3 m3 c3, e = .returned (.tuple #[staV y.g y.a y.n (.slice A3 m3 c3), .int .i64 0]) ∧ Hid (SlI w' (.slice A3 m3 c3) y.t) ∧ Below W.heap.size W w') := fun M W fs2 h => by
      refine (load9_any h.sd hl2).mono ?_
      rintro e w' ⟨h1, h2⟩
      rw [hrd] at h1
      obtain ⟨v3, rfl, h3⟩ := h1
      obtain ⟨A3, c3, rfl, _⟩ := id h3
      exact ⟨A3, _, c3, rfl, h3, h2⟩
    have HOf2 : Hid (∀ W v2, SlI W v2 s.t → Calls Tryd.prog 24 #[staV gen s.a s.n v2] W fun e w' => ∃ A3 m3 c3, e = .returned (staV gen s.a s.n (.slice A3 m3 c3)) ∧ Hid (SlI w' (.slice A3 m3 c3) s.t) ∧ Below W.heap.size W w') := fun W v2 h2 => by
      refine (of9_any ⟨gen, s.a, s.n, s.t⟩ v2 W h2 (by dsimp only; omega)).mono ?_
      rintro e w' ⟨v', rfl, hI, hb⟩
      obtain ⟨A3, c3, rfl, _⟩ := id hI
      exact ⟨A3, _, c3, rfl, hI, hb⟩
    have HRn : Hid (∀ W v2, SlI W v2 s.t → Calls Tryd.prog 22 #[staV gen s.a s.n v2] W fun e w' => e = .returned (.bool nx.right) ∧ Below W.heap.size W w') := fun W v2 h2 => by
      have := rright_any ⟨gen, s.a, s.n, s.t⟩ v2 W h2
      rw [← hnx] at this
      rw [hnx] at this
      rw [hnx]
      exact this
    have HSm : Hid (∀ W v1 v2, SlI W v1 s.t → SlI W v2 s.t → ∀ G, Calls Tryd.prog 27 #[staV G s.a s.n v1, staV G s.a s.n v2] W fun e w' => e = .returned (.bool true) ∧ Below W.heap.size W w') := fun W v1 v2 h1 h2 G => by
      have := lsame_any ⟨G, s.a, s.n, s.t⟩ ⟨G, s.a, s.n, s.t⟩ v1 v2 W h1 h2 (by dsimp only; omega) (by dsimp only; omega)
      rwa [same_ok] at this
    obtain ⟨nr, hnr⟩ : ∃ b, nx.right = b := ⟨_, rfl⟩
    rw [hnr] at HRn hq
    have HQ : Hid ((q = 0 ∧ y = ⟨gen, s.a, s.n, s.t⟩ ∧ gen = s.g + 1 ∧ nr = true) ∨ (q = 10 ∧ y = s ∧ (gen ≠ s.g + 1 ∨ (gen = s.g + 1 ∧ nr = false)))) := by rw [← hnx]; exact hq
    have HVw := hid hv
    clear hr hok hfl hq hrd e1 e2 o1 n1 l1 x1 hb11 hl1 hl2 hnr hnx
    obtain ⟨A, c, e1, _⟩ := hv
    obtain ⟨g, a, n, t⟩ := s
    obtain ⟨yg, ya, yn, yt⟩ := y
    dsimp only at e1 hb1 HOf HRt HS1 HS2 HL HOf2 HRn HSm HQ HVw hg0 hg1 ⊢
    subst e1
    obtain ⟨m, hm⟩ : ∃ m, t.length = m := ⟨_, rfl⟩
    rw [hm] at hb1 HOf HRt HVw ⊢
    clear hm hbig nx
    have h60 : ¬ (60 < (m : Int)) := by omega
    go_enter Tryd.func6, Tryd.ntmps6
    go_upto_region 5 with (go_at_call 20; refine (HAl.out _).mono ?_; rintro e w1 ⟨rfl, hb1⟩; have HX1 := hid (bx_keep hb1); have z3 : w1.cell? ⟨w.heap.size, 3, Option.none⟩ = some (.slice A m c) := HX1.out.1.cell 3)
    clear HAl hb1
    go_upto_region 8 with (go_at_call 21; refine (HN.out _).mono ?_; rintro e w2 ⟨rfl, HA2⟩)
    have HX2 := hid (bx_go HX1.out HA2.out.be)
    have z0 : w2.cell? ⟨w.heap.size, 0, Option.none⟩ = some (.int .i64 g) := HX2.out.1.cell 0
    have z1 : w2.cell? ⟨w.heap.size, 1, Option.none⟩ = some (.int .i64 a) := HX2.out.1.cell 1
    have z2 : w2.cell? ⟨w.heap.size, 2, Option.none⟩ = some (.int .i64 n) := HX2.out.1.cell 2
    have z4 : w2.cell? ⟨w.heap.size, 3, Option.none⟩ = some (.slice A m c) := HX2.out.1.cell 3
    go_upto_region 10 with (go_at_call 22; refine (HRt.out _ HX2.out.2).mono ?_; rintro e w3 ⟨rfl, hb3⟩; have HX3 := hid (bx_go HX2.out hb3); have HA3 := hid (HA2.out.below hb3); have y0 : w3.cell? ⟨w.heap.size, 0, Option.none⟩ = some (.int .i64 g) := HX3.out.1.cell 0; have y1 : w3.cell? ⟨w.heap.size, 1, Option.none⟩ = some (.int .i64 a) := HX3.out.1.cell 1; have y2 : w3.cell? ⟨w.heap.size, 2, Option.none⟩ = some (.int .i64 n) := HX3.out.1.cell 2; have y3 : w3.cell? ⟨w.heap.size, 3, Option.none⟩ = some (.slice A m c) := HX3.out.1.cell 3)
    clear z0 z1 z2 z3 z4 hb3 HX2 HA2 HRt HN
    go_upto_region 12 with (fail)
    obtain ⟨b7, hb7⟩ : ∃ b7, w3.heap.size = b7 := ⟨_, rfl⟩
    have e4 := below_new w3 (.cells #[.int .i64 gen, .int .i64 a, .int .i64 n, .slice A m c] 41)
    have HX4 := hid (bx_go HX3.out e4)
    have HA4 := hid (HA3.out.below e4)
    have HB4 : Hid (Blk (w3.alloc (.cells #[.int .i64 gen, .int .i64 a, .int .i64 n, .slice A m c] 41)) b7 41 #[.int .i64 gen, .int .i64 a, .int .i64 n, .slice A m c] ∧ ¬ Ft (w1.heap.size + 1) w1.heap.size [] b7) := by rw [← hb7]; exact ⟨Blk.new _ _ _, not_ft HA3.out (Nat.le_refl _)⟩
    obtain ⟨w4, hw4⟩ : ∃ w4, w3.alloc (.cells #[.int .i64 gen, .int .i64 a, .int .i64 n, .slice A m c] 41) = w4 := ⟨_, rfl⟩
    rw [hw4] at HX4 HA4 HB4 ⊢
    rw [hb7]
    clear hw4 hb7 e4 HX3 HA3 y0 y1 y2 y3
    have y0 : w4.cell? ⟨w.heap.size, 0, Option.none⟩ = some (.int .i64 g) := HX4.out.1.cell 0
    have y1 : w4.cell? ⟨w.heap.size, 1, Option.none⟩ = some (.int .i64 a) := HX4.out.1.cell 1
    have y2 : w4.cell? ⟨w.heap.size, 2, Option.none⟩ = some (.int .i64 n) := HX4.out.1.cell 2
    have y3 : w4.cell? ⟨w.heap.size, 3, Option.none⟩ = some (.slice A m c) := HX4.out.1.cell 3
    go_upto_region 13 with (first
      | (go_at_call 24; refine (HOf.out _ HX4.out.2).mono ?_; rintro e w5 ⟨A5, m5, c5, rfl, HV5, hb5⟩; have HA5 := hid (HA4.out.below hb5); have HB5 := hid (And.intro (HB4.out.1.keep hb5 HB4.out.1.lt) HB4.out.2))
      | (go_at_call 23; refine (HS1.out _ _ _ HA5.out HV5.out).mono ?_; rintro e w6 ⟨fs6, rfl, HA6⟩))
    have HB6 := hid (HA6.out.2.blk HB5.out.1 HB5.out.2)
    have HW6 := hid (HX1.out.2.trans (HA6.out.1.be.mono HX1.out.2.size))
    clear y0 y1 y2 y3 hb5 HX4 HA4 HB4 HV5 HA5 HB5 HOf HS1
    have u0 : w6.cell? ⟨b7, 0, Option.none⟩ = some (.int .i64 gen) := HB6.out.1.cell 0
    have u1 : w6.cell? ⟨b7, 1, Option.none⟩ = some (.int .i64 a) := HB6.out.1.cell 1
    have u2 : w6.cell? ⟨b7, 2, Option.none⟩ = some (.int .i64 n) := HB6.out.1.cell 2
    have u3 : w6.cell? ⟨b7, 3, Option.none⟩ = some (.slice A m c) := HB6.out.1.cell 3
    go_upto_region 14 with (first
      | (go_at_call 24; refine (HOf2.out _ _ (HVw.out.below HW6.out)).mono ?_; rintro e w7 ⟨A7, m7, c7, rfl, HV7, hb7⟩; have HA7 := hid (HA6.out.1.below hb7); have HB7 := hid (And.intro (HB6.out.1.keep hb7 HB6.out.1.lt) HB6.out.2))
      | (go_at_call 23; refine (HS2.out _ _ _ _ HA7.out HV7.out).mono ?_; rintro e w8 ⟨fs8, rfl, HA8⟩))
    have HB8 := hid (HA8.out.2.blk HB7.out.1 HB7.out.2)
    have HX8 := hid (bx_go HX1.out HA8.out.1.be)
    clear u0 u1 u2 u3 hb7 HA7 HB7 HV7 HB6 HA6 HOf2 HS2
    go_upto_region 15 with (go_at_call 26; refine (HL.out _ _ _ HA8.out.1).mono ?_; rintro e w9 ⟨A9, m9, c9, rfl, HV9, hb9⟩)
    obtain ⟨b10, hb10⟩ : ∃ b, w9.heap.size = b := ⟨_, rfl⟩
    have e10 := below_new w9 (.cells #[.int .i64 yg, .int .i64 ya, .int .i64 yn, .slice A9 m9 c9] 48)
    have HX9 := hid (bx_go HX8.out hb9)
    have HX10 := hid (bx_go HX9.out e10)
    have HB9 := hid (HB8.out.1.keep hb9 HB8.out.1.lt)
    have HB10 := hid (HB9.out.keep e10 HB9.out.lt)
    have HY10 : Hid (Blk (w9.alloc (.cells #[.int .i64 yg, .int .i64 ya, .int .i64 yn, .slice A9 m9 c9] 48)) b10 48 #[.int .i64 yg, .int .i64 ya, .int .i64 yn, .slice A9 m9 c9]) := by rw [← hb10]; exact Blk.new _ _ _
    have HV10 := hid (HV9.out.below e10)
    obtain ⟨w10, hw10⟩ : ∃ w10, w9.alloc (.cells #[.int .i64 yg, .int .i64 ya, .int .i64 yn, .slice A9 m9 c9] 48) = w10 := ⟨_, rfl⟩
    rw [hw10] at HX10 HB10 HY10 HV10 ⊢
    rw [hb10]
    clear hw10 hb10 e10 hb9 HX9 HB9 HX8 HB8 HA8 HV9 HL HX1
    have HVA : Hid (SlI w10 (.slice A m c) t) := HVw.out.below HX10.out.2
    have z0 : w10.cell? ⟨w.heap.size, 0, Option.none⟩ = some (.int .i64 g) := HX10.out.1.cell 0
    have z1 : w10.cell? ⟨w.heap.size, 1, Option.none⟩ = some (.int .i64 a) := HX10.out.1.cell 1
    have z2 : w10.cell? ⟨w.heap.size, 2, Option.none⟩ = some (.int .i64 n) := HX10.out.1.cell 2
    have z3 : w10.cell? ⟨w.heap.size, 3, Option.none⟩ = some (.slice A m c) := HX10.out.1.cell 3
    have u0 : w10.cell? ⟨b7, 0, Option.none⟩ = some (.int .i64 gen) := HB10.out.cell 0
    have u1 : w10.cell? ⟨b7, 1, Option.none⟩ = some (.int .i64 a) := HB10.out.cell 1
    have u2 : w10.cell? ⟨b7, 2, Option.none⟩ = some (.int .i64 n) := HB10.out.cell 2
    have u3 : w10.cell? ⟨b7, 3, Option.none⟩ = some (.slice A m c) := HB10.out.cell 3
    have x0 : w10.cell? ⟨b10, 0, Option.none⟩ = some (.int .i64 yg) := HY10.out.cell 0
    have x1 : w10.cell? ⟨b10, 1, Option.none⟩ = some (.int .i64 ya) := HY10.out.cell 1
    have x2 : w10.cell? ⟨b10, 2, Option.none⟩ = some (.int .i64 yn) := HY10.out.cell 2
    have x3 : w10.cell? ⟨b10, 3, Option.none⟩ = some (.slice A9 m9 c9) := HY10.out.cell 3
    rcases HQ.out with ⟨hq, hy, hg, hn⟩ | ⟨hq, hy, hg⟩
    · subst hq hn
      injection hy with y1 y2 y3 y4
      subst y1 y2 y3 y4 hg
      clear HQ
      go_upto_region 19 with (go_at_call 22; refine (HRn.out _ _ HVA.out).mono ?_; rintro e w11 ⟨rfl, hb11⟩)
      have HC11 := hid (And.intro (HX10.out.2.trans (hb11.mono HX10.out.2.size)) (And.intro (HVA.out.below hb11) (HV10.out.below hb11)))
      have HY11 := hid (HY10.out.keep hb11 HY10.out.lt)
      have HB11 := hid (HB10.out.keep hb11 HB10.out.lt)
      clear z0 z1 z2 z3 u0 u1 u2 u3 x0 x1 x2 x3
      have x0 : w11.cell? ⟨b10, 0, Option.none⟩ = some (_) := HY11.out.cell 0
      have x1 : w11.cell? ⟨b10, 1, Option.none⟩ = some (_) := HY11.out.cell 1
      have x2 : w11.cell? ⟨b10, 2, Option.none⟩ = some (_) := HY11.out.cell 2
      have x3 : w11.cell? ⟨b10, 3, Option.none⟩ = some (_) := HY11.out.cell 3
      have u0 : w11.cell? ⟨b7, 0, Option.none⟩ = some (_) := HB11.out.cell 0
      have u1 : w11.cell? ⟨b7, 1, Option.none⟩ = some (_) := HB11.out.cell 1
      have u2 : w11.cell? ⟨b7, 2, Option.none⟩ = some (_) := HB11.out.cell 2
      have u3 : w11.cell? ⟨b7, 3, Option.none⟩ = some (_) := HB11.out.cell 3
      go_wp2_with (go_at_call 27; refine (HSm.out _ _ _ HC11.out.2.2 HC11.out.2.1 _).mono ?_; rintro e w12 ⟨rfl, hb12⟩)
      go_ret
      exact ⟨rfl, HC11.out.1.trans (hb12.mono HC11.out.1.size)⟩
    · subst hq
      injection hy with y1 y2 y3 y4
      subst y1 y2 y3 y4
      clear HQ
      rcases hg with hg | ⟨hg, hn⟩
      · have hgb : (gen == yg + 1) = false := by simpa using hg
        go_wp2_with (go_at_call 27; refine (HSm.out _ _ _ HV10.out HVA.out _).mono ?_; rintro e w12 ⟨rfl, hb12⟩)
        go_ret
        exact ⟨rfl, HX10.out.2.trans (hb12.mono HX10.out.2.size)⟩
      · subst hg hn
        go_upto_region 20 with (go_at_call 22; refine (HRn.out _ _ HVA.out).mono ?_; rintro e w11 ⟨rfl, hb11⟩)
        have HC11 := hid (And.intro (HX10.out.2.trans (hb11.mono HX10.out.2.size)) (And.intro (HVA.out.below hb11) (HV10.out.below hb11)))
        have HY11 := hid (HY10.out.keep hb11 HY10.out.lt)
        have HX11 := hid (HX10.out.1.keep hb11 HX10.out.1.lt)
        clear z0 z1 z2 z3 u0 u1 u2 u3 x0 x1 x2 x3
        have x0 : w11.cell? ⟨b10, 0, Option.none⟩ = some (_) := HY11.out.cell 0
        have x1 : w11.cell? ⟨b10, 1, Option.none⟩ = some (_) := HY11.out.cell 1
        have x2 : w11.cell? ⟨b10, 2, Option.none⟩ = some (_) := HY11.out.cell 2
        have x3 : w11.cell? ⟨b10, 3, Option.none⟩ = some (_) := HY11.out.cell 3
        have z0 : w11.cell? ⟨w.heap.size, 0, Option.none⟩ = some (_) := HX11.out.cell 0
        have z1 : w11.cell? ⟨w.heap.size, 1, Option.none⟩ = some (_) := HX11.out.cell 1
        have z2 : w11.cell? ⟨w.heap.size, 2, Option.none⟩ = some (_) := HX11.out.cell 2
        have z3 : w11.cell? ⟨w.heap.size, 3, Option.none⟩ = some (_) := HX11.out.cell 3
        go_wp2_with (go_at_call 27; refine (HSm.out _ _ _ HC11.out.2.2 HC11.out.2.1 _).mono ?_; rintro e w12 ⟨rfl, hb12⟩)
        go_ret
        exact ⟨rfl, HC11.out.1.trans (hb12.mono HC11.out.1.size)⟩
end Go.Proofs.YtofkfafdodhmdaaDoor
