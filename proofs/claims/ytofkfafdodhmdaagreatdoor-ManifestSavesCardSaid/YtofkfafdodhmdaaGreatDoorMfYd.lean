/- The document's Save. Conditions: the disk stands and is good behind at most 990 calls; it has the manifest and the file beside it alone, none too great. -/
import Derived.Test.YtofkfafdodhmdaaGreatDoorMfYc
import Derived.Test.YtofkfafdodhmdaaGreatDoorMfI
import Derived.Test.YtofkfafdodhmdaaGreatDoorNQ
namespace Go.Proofs.YtofkfafdodhmdaaGreatDoor
open Go.RowKit

set_option maxRecDepth 100000 in
set_option maxHeartbeats 32000000 in
theorem rsave9_any {w : World} {B rb i : Nat} {z : Int} {F : Nat → Prop} {p : PV} (h : Rd9 w B rb z i F p) (hi : i ≤ 990) (hz : 0 ≤ z ∧ z ≤ 16777216) (s : Sta) (v : Value) (hv : SlI w v s.t) {a0 c0 : Nat} (hd : Bd p.1 a0 c0) (ha0 : a0 ≤ 10000) (hc0 : c0 ≤ 10000) :
    Calls Tryz.prog 23 #[.pointer (some ⟨rb, 0, none⟩), .string mN, staV s.g s.a s.n v] w fun e w' => e = .returned (.int .i64 (pSave s z p).1) ∧ ∃ F1, Rd9 w' B rb z (i + 6) F1 (pSave s z p).2 ∧ Mr w w' F F1 := by
  have HFt : Hid (∀ k, F k → k < w.heap.size) := fun k q => (h.lt q).2
  have hl : (rdM p).length ≤ 10000 := Nat.le_trans hd.rd ha0
  have hs0 : sizeV p.1 ≤ 90000 := by have := hd.size h.good.ri; omega
  have HEn0 : Hid (∀ W, Below w.heap.size w W → Calls Tryz.prog 10 #[staV s.g s.a s.n v] W (EcEnd W s)) := fun W hW => rencode_any s v W (hv.below hW)
  have HE0 : Hid (∀ (e : Ending) (w' : World), e = .returned (.int .i64 (pSave s z p).1) → (pSave s z p).2 = p → Below w.heap.size w w' → e = .returned (.int .i64 (pSave s z p).1) ∧ ∃ F1, Rd9 w' B rb z (i + 6) F1 (pSave s z p).2 ∧ Mr w w' F F1) := fun e w' h1 h2 h3 => ⟨h1, F, by rw [h2]; exact (h.below h3).upto (by omega), Mr.of_below h3⟩
  have HP0 := hid (rfl : pSave s z p = pSave s z p)
  unfold pSave at HP0
  obtain ⟨A, c, ev, _⟩ := hv
  obtain ⟨g, a, n, t⟩ := s
  dsimp only at ev HEn0 ⊢
  subst ev
  cases hr : (⟨g, a, n, t⟩ : Sta).right with
  | false =>
    have HP : Hid (pSave ⟨g, a, n, t⟩ z p = (10, p)) := by unfold Hid pSave; rw [if_neg (by rw [hr]; decide)]
    have HEn : Hid (∀ W, Below w.heap.size w W → Calls Tryz.prog 10 #[staV g a n (.slice A t.length c)] W fun e w' => e = .returned (.tuple #[.slice Option.none 0 0, .bool false]) ∧ Below W.heap.size W w') := fun W hW => by
      refine (HEn0.out W hW).mono ?_
      rintro e w' ⟨h1, h2⟩
      rw [if_neg (by rw [hr]; decide)] at h1
      exact ⟨h1, h2⟩
    clear h hi hz hl hr HEn0 HP0 hd
    generalize t.length = mt at *
    go_enter Tryz.func23, Tryz.ntmps23
    go_wp2_with (go_at_call 10; refine (HEn.out _ (below_new _ _)).mono ?_; rintro e w1 ⟨rfl, hb1⟩)
    go_ret
    exact HE0.out _ _ (by rw [HP.out]; rfl) (by rw [HP.out]) ((below_new _ _).trans (hb1.mono (by simp)))
  | true =>
    obtain ⟨l, el⟩ : ∃ l, rdM p = l := ⟨_, rfl⟩
    obtain ⟨ll, hll⟩ : ∃ ll, l.length = ll := ⟨_, rfl⟩
    obtain ⟨ne, hne⟩ : ∃ ne, (⟨g, a, n, t⟩ : Sta).enc.length = ne := ⟨_, rfl⟩
    obtain ⟨fr, hfr⟩ : ∃ fr, frameM (⟨g, a, n, t⟩ : Sta).enc = fr := ⟨_, rfl⟩
    obtain ⟨nf, hnf⟩ : ∃ nf, fr.length = nf := ⟨_, rfl⟩
    have hok := (Sta.right_iff _).1 hr
    have hel := enc_len hok
    have hfl := frame_len9 hr
    rw [hfr, hnf] at hfl
    have hg0 := hok.g0
    have hg1 := hok.g1
    dsimp only at hg0 hg1
    have HEn : Hid (∀ W, Below w.heap.size w W → Calls Tryz.prog 10 #[staV g a n (.slice A t.length c)] W fun e w' => ∃ A7 c7, e = .returned (.tuple #[.slice A7 ne c7, .bool true]) ∧ Hid (Row w' W.heap.size (.slice A7 ne c7) (⟨g, a, n, t⟩ : Sta).enc) ∧ Below W.heap.size W w') := fun W hW => by
      refine (HEn0.out W hW).mono ?_
      rintro e w' ⟨h1, h2⟩
      rw [if_pos hr] at h1
      obtain ⟨u, rfl, h3⟩ := h1
      obtain ⟨A7, c7, rfl, _⟩ := id h3.sla
      rw [hne] at h3 ⊢
      exact ⟨A7, c7, rfl, h3, h2⟩
    have HD : Hid (∀ W, Below w.heap.size w W → Calls Tryz.prog 31 #[.pointer (some ⟨rb, 0, none⟩), .string mN] W fun e w' => ∃ A9 c9 o, e = .returned (.tuple #[.slice A9 ll c9, .bool o]) ∧ Hid (Row w' W.heap.size (.slice A9 ll c9) l) ∧ ll ≤ c9 ∧ Below W.heap.size W w') := fun W hW => by
      refine (rread9m (h.below hW) (by omega) hs0).mono ?_
      rintro e w' ⟨u, o, rfl, h1, h2⟩
      rw [el] at h1
      obtain ⟨A9, c9, rfl, h4, _⟩ := id h1.sla
      rw [hll] at h1 h4 ⊢
      exact ⟨A9, c9, o, rfl, h1, h4, h2⟩
    have HR0 : Hid (∀ W u, SlA W u l → Calls Tryz.prog 14 #[u] W (RdsEnd W l)) := fun W u hu => rread_any u l (by rw [← el]; omega) W hu
    have HFr : Hid (∀ W A7 c7, SlA W (.slice A7 ne c7) (⟨g, a, n, t⟩ : Sta).enc → Calls Tryz.prog 37 #[.slice A7 ne c7] W fun e w' => ∃ A4 c4, e = .returned (.tuple #[.slice A4 nf c4, .bool true]) ∧ Hid (Row w' W.heap.size (.slice A4 nf c4) fr) ∧ Below W.heap.size W w') := fun W A7 c7 h7 => by
      refine (refFrame_any _ _ (by omega) W h7).mono ?_
      rintro e w' ⟨u, rfl, h1, h2⟩
      rw [hfr] at h1
      obtain ⟨A4, c4, rfl, _⟩ := id h1.sla
      rw [hnf] at h1 ⊢
      exact ⟨A4, c4, rfl, h1, h2⟩
    have hl2 : ll ≤ 10000 := by rw [← hll, ← el]; exact hl
    have HLL := hid hll
    have HNF := hid hnf
    have HEL := hid el
    have HRi := hid h.good
    have HBd := hid hd
    clear HEn0 HP0 hok hel hne
    cases hrs : readS l with
    | none =>
      have HP : Hid (pSave ⟨g, a, n, t⟩ z p = (20, p)) := by unfold Hid pSave; rw [if_pos hr, el, hrs]
      have HR : Hid (∀ W u, SlA W u l → Calls Tryz.prog 14 #[u] W fun e w' => e = .returned (.tuple #[staV 0 0 0 (.slice Option.none 0 0), .int .i64 0, .int .i64 20]) ∧ Below W.heap.size W w') := fun W u hu => by
        refine (HR0.out W u hu).mono ?_
        rintro e w' ⟨h1, h2⟩
        rw [hrs] at h1
        exact ⟨h1, h2⟩
      clear h hi hz hl hr hrs HR0 el hll hnf hfr hs0 hd
      generalize t.length = mt at *
      go_enter Tryz.func23, Tryz.ntmps23
      go_wp2_with (first | (go_at_call 10; refine (HEn.out _ (below_new _ _)).mono ?_; rintro e w1 ⟨A7, c7, rfl, HR7, hb1⟩; have HX1 := hid (bx_keep hb1)) | (go_at_call 31; refine (HD.out _ HX1.out.2).mono ?_; rintro e w2 ⟨A9, c9, o, rfl, H9, hc9, hb2⟩; have HX2 := hid (bx_go HX1.out hb2)) | (go_at_call 14; refine (HR.out _ _ H9.out.sla).mono ?_; rintro e w3 ⟨rfl, hb3⟩; have HX3 := hid (bx_go HX2.out hb3)))
      go_ret
      exact HE0.out _ _ (by rw [HP.out]; rfl) (by rw [HP.out]) (bx_go HX3.out (below_new _ _)).2
    | some pr =>
      obtain ⟨⟨g3, a3, n3, t3⟩, N⟩ := pr
      have HR : Hid (∀ W u, SlA W u l → Calls Tryz.prog 14 #[u] W fun e w' => ∃ A3 m3 c3, e = .returned (.tuple #[staV g3 a3 n3 (.slice A3 m3 c3), .int .i64 (N : Int), .int .i64 0]) ∧ Below W.heap.size W w') := fun W u hu => by
        refine (HR0.out W u hu).mono ?_
        rintro e w' ⟨h1, h2⟩
        rw [hrs] at h1
        obtain ⟨v3, rfl, h3, h4⟩ := h1
        obtain ⟨A3, c3, rfl, _⟩ := id h3
        exact ⟨A3, _, c3, rfl, h2⟩
      have hN := readS_le hrs
      rw [hll] at hN
      have hg3 : (0 < N ∧ 1 ≤ g3 ∧ g3 ≤ 1099511627776) ∨ (N = 0 ∧ g3 = 0) := by
        by_cases h0 : 0 < N
        · have := (Sta.right_iff _).1 ((readS_gen hrs).1 h0)
          exact .inl ⟨h0, this.g0, this.g1⟩
        · have e := (readS_gen hrs).2 (by omega)
          exact .inr ⟨by omega, congrArg Sta.g e⟩
      have HPs : Hid (pSave ⟨g, a, n, t⟩ z p = if 0 < N ∧ g ≠ g3 + 1 then (10, p) else if 2048 ≤ ll then pRepl fr z p else if N < ll then (if (pRepl (l.take N) z p).1 = 0 then pAdd mN fr z (pRepl (l.take N) z p).2 else pRepl (l.take N) z p) else pAdd mN fr z p) := by unfold Hid pSave; rw [if_pos hr, el, hrs, hll, hfr]
      have HSw : Hid (∀ W A c m b, Below w.heap.size w W → SlA W (.slice A m c) b → (∀ k, (Value.slice A m c).ownBlock = some k → ¬ F k) → b.length ≤ 20000 → Calls Tryz.prog 54 #[.pointer (some ⟨rb, 0, none⟩), .string mN, .slice A m c] W fun e w' => e = .returned (.int .i64 (pRepl b z p).1) ∧ ∃ F1, Rd9 w' B rb z (i + 4) F1 (pRepl b z p).2 ∧ Mr W w' F F1) := fun W A c m b hW hS ho hbl => rswap9 (h.below hW) hi hz _ b hS ho hd (by omega) (by omega) hbl
      have htl : (l.take N).length = N := by rw [List.length_take]; omega
      have HBt : Hid ((l.take N).length ≤ 20000) := by unfold Hid; omega
      have HBf : Hid (fr.length ≤ 20000) := by unfold Hid; omega
      have dr := (hd.repl (b := l.take N) h.good).1
      rw [htl] at dr
      have gr := good_repl (b := l.take N) h.good hz.2
      have sr := dr.size gr.ri
      have drw := dr.pwN (b := fr) (z := z) gr.ri
      have grw := good_pw (x := mN) (b := fr) gr hz.2
      have srw := drw.size grw.ri
      rw [hnf] at srw
      have dw := hd.pwN (b := fr) (z := z) h.good.ri
      have gw := good_pw (x := mN) (b := fr) h.good hz.2
      have sw := dw.size gw.ri
      rw [hnf] at sw
      have s00 := hd.size h.good.ri
      have HWr5 : Hid (∀ W F1 A c, Rd9 W B rb z (i + 4) F1 (pRepl (l.take N) z p).2 → SlA W (.slice A nf c) fr → (0 < fr.length → ∀ k, (Value.slice A nf c).ownBlock = some k → ¬ F1 k) → Calls Tryz.prog 25 #[.pointer (some ⟨rb, 0, none⟩), .string mN, .slice A nf c] W fun e w' => e = .returned (.int .i64 (pWrite mN fr z (pRepl (l.take N) z p).2).1) ∧ ∃ F2, Rd9 w' B rb z (i + 5) F2 (pWrite mN fr z (pRepl (l.take N) z p).2).2 ∧ Mr W w' F1 F2) := fun W F1 A c h1 h2 h3 => rwrite9 h1 (by omega) hz mN (by decide) _ fr h2 h3 (by omega)
      have HSy5 : Hid (∀ W F1, Rd9 W B rb z (i + 5) F1 (pWrite mN fr z (pRepl (l.take N) z p).2).2 → Calls Tryz.prog 55 #[.pointer (some ⟨rb, 0, none⟩), .string mN] W fun e w' => ∃ q, e = .returned (.int .i64 q) ∧ ∃ F2, Rd9 w' B rb z (i + 6) F2 (pSync mN (pWrite mN fr z (pRepl (l.take N) z p).2).2).2 ∧ Mr W w' F1 F2) := fun W F1 h1 => (rsync9 h1 (by omega) mN (by decide) (by omega)).mono fun e w' ⟨h2, h3⟩ => ⟨_, h2, h3⟩
      have HWr0 : Hid (∀ W A c, Below w.heap.size w W → SlA W (.slice A nf c) fr → (0 < fr.length → ∀ k, (Value.slice A nf c).ownBlock = some k → ¬ F k) → Calls Tryz.prog 25 #[.pointer (some ⟨rb, 0, none⟩), .string mN, .slice A nf c] W fun e w' => e = .returned (.int .i64 (pWrite mN fr z p).1) ∧ ∃ F2, Rd9 w' B rb z (i + 1) F2 (pWrite mN fr z p).2 ∧ Mr W w' F F2) := fun W A c hW h2 h3 => rwrite9 (h.below hW) (by omega) hz mN (by decide) _ fr h2 h3 (by omega)
      have HSy0 : Hid (∀ W F1, Rd9 W B rb z (i + 1) F1 (pWrite mN fr z p).2 → Calls Tryz.prog 55 #[.pointer (some ⟨rb, 0, none⟩), .string mN] W fun e w' => ∃ q, e = .returned (.int .i64 q) ∧ ∃ F2, Rd9 w' B rb z (i + 2) F2 (pSync mN (pWrite mN fr z p).2).2 ∧ Mr W w' F1 F2) := fun W F1 h1 => (rsync9 h1 (by omega) mN (by decide) (by omega)).mono fun e w' ⟨h2, h3⟩ => ⟨_, h2, h3⟩
      have HAn5 := hid (add_ans (x := mN) (b := fr) (z := z) gr.ri)
      have HAn0 := hid (add_ans (x := mN) (b := fr) (z := z) h.good.ri)
      clear hrs HR0 hr h hz hl el hll HEL dr gr sr drw grw srw dw gw sw s00 hs0 hd htl hnf hfr HBd HRi
      generalize t.length = mt at *
      rcases hg3 with ⟨hN0, hg4, hg5⟩ | ⟨hN0, hg4⟩
      · have hp3 : 0 < g3 := by omega
        by_cases hgg : g ≠ g3 + 1
        · have HP : Hid (pSave ⟨g, a, n, t⟩ z p = (10, p)) := by unfold Hid; rw [HPs.out, if_pos ⟨hN0, hgg⟩]
          have hgb : (g != g3 + 1) = true := by simpa using hgg
          clear hgg HPs HSw HFr HWr5 HSy5 HWr0 HSy0
          go_enter Tryz.func23, Tryz.ntmps23
          go_wp2_with (first | (go_at_call 10; refine (HEn.out _ (below_new _ _)).mono ?_; rintro e w1 ⟨A7, c7, rfl, HR7, hb1⟩; have HX1 := hid (bx_keep hb1)) | (go_at_call 31; refine (HD.out _ HX1.out.2).mono ?_; rintro e w2 ⟨A9, c9, o, rfl, H9, hc9, hb2⟩; have HX2 := hid (bx_go HX1.out hb2)) | (go_at_call 14; refine (HR.out _ _ H9.out.sla).mono ?_; rintro e w3 ⟨A3, m3, c3, rfl, hb3⟩; have HX3 := hid (bx_go HX2.out hb3); have z0 : ∀ o, (w3.alloc o).cell? ⟨w.heap.size, 0, Option.none⟩ = some (.int .i64 g) := fun o => (HX3.out.1.keep (below_new _ _) HX3.out.1.lt).cell 0))
          go_ret
          exact HE0.out _ _ (by rw [HP.out]; rfl) (by rw [HP.out]) (bx_go HX3.out (below_new _ _)).2
        · have hgn : ¬ (0 < N ∧ g ≠ g3 + 1) := fun q => hgg q.2
          have hgb : (g != g3 + 1) = false := by simp; omega
          clear hgg
          by_cases h20 : 2048 ≤ ll
          · have HP : Hid (pSave ⟨g, a, n, t⟩ z p = pRepl fr z p) := by unfold Hid; rw [HPs.out, if_neg hgn, if_pos h20]
            have h21 : 2048 ≤ (ll : Int) := by omega
            clear hgn HPs HWr5 HSy5 HWr0 HSy0
            go_enter Tryz.func23, Tryz.ntmps23
            go_wp2_with (first | (go_at_call 10; refine (HEn.out _ (below_new _ _)).mono ?_; rintro e w1 ⟨A7, c7, rfl, HR7, hb1⟩; have HX1 := hid (bx_keep hb1)) | (go_at_call 31; refine (HD.out _ HX1.out.2).mono ?_; rintro e w2 ⟨A9, c9, o, rfl, H9, hc9, hb2⟩; have HX2 := hid (bx_go HX1.out hb2)) | (go_at_call 14; refine (HR.out _ _ H9.out.sla).mono ?_; rintro e w3 ⟨A3, m3, c3, rfl, hb3⟩; have HX3 := hid (bx_go HX2.out hb3); have z0 : ∀ o, (w3.alloc o).cell? ⟨w.heap.size, 0, Option.none⟩ = some (.int .i64 g) := fun o => (HX3.out.1.keep (below_new _ _) HX3.out.1.lt).cell 0) | (go_at_call 37; refine (HFr.out _ _ _ ((HR7.out.sla.below (hb2.trans (hb3.mono hb2.size))).below (below_new _ _))).mono ?_; rintro e w4 ⟨A4, c4, rfl, HR4, hb4⟩; have HX4 := hid (bx_go HX3.out ((below_new _ _).trans (hb4.mono (by simp)))); have H94 := hid ((H9.out.keep hb3 H9.out.block_lt).keep ((below_new w3 _).trans (hb4.mono (by simp))) (Row.block_lt (H9.out.keep hb3 H9.out.block_lt)))) | (go_at_call 54; refine (HSw.out _ _ _ _ _ HX4.out.2 HR4.out.sla (row_off HR4.out fun k q => Nat.lt_of_lt_of_le (HFt.out k q) (Nat.le_trans HX3.out.2.size (by simp))) HBf.out).mono ?_; rintro e w5 ⟨rfl, F5, h5, m5⟩))
            go_ret
            rw [HP.out]
            exact ⟨rfl, F5, h5.upto (by omega), m5.lift HX4.out.2⟩
          have h21 : ¬ (2048 ≤ (ll : Int)) := by omega
          by_cases hNl : N < ll
          · obtain ⟨q, hq⟩ : ∃ q, (pRepl (l.take N) z p).1 = q := ⟨_, rfl⟩
            have h22 : (N : Int) < (ll : Int) := by omega
            by_cases hq0 : q = 0
            · subst hq0
              obtain ⟨q2, hw⟩ : ∃ q, (pWrite mN fr z (pRepl (l.take N) z p).2).1 = q := ⟨_, rfl⟩
              by_cases hw0 : q2 = 0
              · subst hw0
                have HP : Hid (pSave ⟨g, a, n, t⟩ z p = (0, (pSync mN (pWrite mN fr z (pRepl (l.take N) z p).2).2).2)) := by
                  have e1 := HAn5.out
                  rw [hw] at e1
                  have e2 : pAdd mN fr z (pRepl (l.take N) z p).2 = pSync mN (pWrite mN fr z (pRepl (l.take N) z p).2).2 := by unfold pAdd; rw [if_pos hw]
                  unfold Hid; rw [HPs.out, if_neg hgn, if_neg h20, if_pos hNl, if_pos hq, ← e2]
                  exact Prod.ext e1 rfl
                clear hgn HPs
                go_enter Tryz.func23, Tryz.ntmps23
                go_wp2_with (first | (go_at_call 10; refine (HEn.out _ (below_new _ _)).mono ?_; rintro e w1 ⟨A7, c7, rfl, HR7, hb1⟩; have HX1 := hid (bx_keep hb1)) | (go_at_call 31; refine (HD.out _ HX1.out.2).mono ?_; rintro e w2 ⟨A9, c9, o, rfl, H9, hc9, hb2⟩; have HX2 := hid (bx_go HX1.out hb2)) | (go_at_call 14; refine (HR.out _ _ H9.out.sla).mono ?_; rintro e w3 ⟨A3, m3, c3, rfl, hb3⟩; have HX3 := hid (bx_go HX2.out hb3); have z0 : ∀ o, (w3.alloc o).cell? ⟨w.heap.size, 0, Option.none⟩ = some (.int .i64 g) := fun o => (HX3.out.1.keep (below_new _ _) HX3.out.1.lt).cell 0) | (go_at_call 37; refine (HFr.out _ _ _ ((HR7.out.sla.below (hb2.trans (hb3.mono hb2.size))).below (below_new _ _))).mono ?_; rintro e w4 ⟨A4, c4, rfl, HR4, hb4⟩; have HX4 := hid (bx_go HX3.out ((below_new _ _).trans (hb4.mono (by simp)))); have H94 := hid ((H9.out.keep hb3 H9.out.block_lt).keep ((below_new w3 _).trans (hb4.mono (by simp))) (Row.block_lt (H9.out.keep hb3 H9.out.block_lt))); have HN4 := row_off HR4.out fun k q => Nat.lt_of_lt_of_le (HFt.out k q) (Nat.le_trans HX3.out.2.size (by simp))) | (go_at_call 54; refine (HSw.out _ _ _ _ _ HX4.out.2 (slA_take9 H94.out.sla HLL.out N hN) (fun k q => row_off H94.out (fun k q => Nat.lt_of_lt_of_le (HFt.out k q) HX1.out.2.size) k (own_len q)) HBt.out).mono ?_; rintro e w5 ⟨rfl, F5, h5, m5⟩; have HM5 := hid (And.intro h5 m5); rw [hq]) | (go_at_call 25; refine (HWr5.out _ _ _ _ HM5.out.1 (HR4.out.sla.mr HM5.out.2 HN4) (not_mr HR4.out.sla HM5.out.2 HN4)).mono ?_; rintro e w6 ⟨rfl, F6, h6, m6⟩; have HM6 := hid (And.intro h6 (HM5.out.2.trans m6)); rw [hw]) | (go_at_call 55; refine (HSy5.out _ _ HM6.out.1).mono ?_; rintro e w7 ⟨q7, rfl, F7, h7, m7⟩))
                go_ret
                rw [HP.out]
                exact ⟨rfl, F7, h7.upto (by omega), (HM6.out.2.trans m7).lift HX4.out.2⟩
              · have HP : Hid (pSave ⟨g, a, n, t⟩ z p = pWrite mN fr z (pRepl (l.take N) z p).2) := by
                  have e2 : pAdd mN fr z (pRepl (l.take N) z p).2 = pWrite mN fr z (pRepl (l.take N) z p).2 := by unfold pAdd; rw [if_neg (by rw [hw]; exact hw0)]
                  unfold Hid; rw [HPs.out, if_neg hgn, if_neg h20, if_pos hNl, if_pos hq, e2]
                have hwb : (q2 == 0) = false := by simpa using hw0
                clear hgn HPs hw0
                go_enter Tryz.func23, Tryz.ntmps23
                go_wp2_with (first | (go_at_call 10; refine (HEn.out _ (below_new _ _)).mono ?_; rintro e w1 ⟨A7, c7, rfl, HR7, hb1⟩; have HX1 := hid (bx_keep hb1)) | (go_at_call 31; refine (HD.out _ HX1.out.2).mono ?_; rintro e w2 ⟨A9, c9, o, rfl, H9, hc9, hb2⟩; have HX2 := hid (bx_go HX1.out hb2)) | (go_at_call 14; refine (HR.out _ _ H9.out.sla).mono ?_; rintro e w3 ⟨A3, m3, c3, rfl, hb3⟩; have HX3 := hid (bx_go HX2.out hb3); have z0 : ∀ o, (w3.alloc o).cell? ⟨w.heap.size, 0, Option.none⟩ = some (.int .i64 g) := fun o => (HX3.out.1.keep (below_new _ _) HX3.out.1.lt).cell 0) | (go_at_call 37; refine (HFr.out _ _ _ ((HR7.out.sla.below (hb2.trans (hb3.mono hb2.size))).below (below_new _ _))).mono ?_; rintro e w4 ⟨A4, c4, rfl, HR4, hb4⟩; have HX4 := hid (bx_go HX3.out ((below_new _ _).trans (hb4.mono (by simp)))); have H94 := hid ((H9.out.keep hb3 H9.out.block_lt).keep ((below_new w3 _).trans (hb4.mono (by simp))) (Row.block_lt (H9.out.keep hb3 H9.out.block_lt))); have HN4 := row_off HR4.out fun k q => Nat.lt_of_lt_of_le (HFt.out k q) (Nat.le_trans HX3.out.2.size (by simp))) | (go_at_call 54; refine (HSw.out _ _ _ _ _ HX4.out.2 (slA_take9 H94.out.sla HLL.out N hN) (fun k q => row_off H94.out (fun k q => Nat.lt_of_lt_of_le (HFt.out k q) HX1.out.2.size) k (own_len q)) HBt.out).mono ?_; rintro e w5 ⟨rfl, F5, h5, m5⟩; have HM5 := hid (And.intro h5 m5); rw [hq]) | (go_at_call 25; refine (HWr5.out _ _ _ _ HM5.out.1 (HR4.out.sla.mr HM5.out.2 HN4) (not_mr HR4.out.sla HM5.out.2 HN4)).mono ?_; rintro e w6 ⟨rfl, F6, h6, m6⟩; have HM6 := hid (And.intro h6 (HM5.out.2.trans m6)); rw [hw]))
                go_ret
                rw [HP.out, hw]
                exact ⟨rfl, F6, HM6.out.1.upto (by omega), HM6.out.2.lift HX4.out.2⟩
            · have HP : Hid (pSave ⟨g, a, n, t⟩ z p = pRepl (l.take N) z p) := by unfold Hid; rw [HPs.out, if_neg hgn, if_neg h20, if_pos hNl, if_neg (fun e => hq0 (hq.symm.trans e))]
              have hqb : (q != 0) = true := by simpa using hq0
              clear hgn HPs hq0 HWr5 HSy5 HWr0 HSy0
              go_enter Tryz.func23, Tryz.ntmps23
              go_wp2_with (first | (go_at_call 10; refine (HEn.out _ (below_new _ _)).mono ?_; rintro e w1 ⟨A7, c7, rfl, HR7, hb1⟩; have HX1 := hid (bx_keep hb1)) | (go_at_call 31; refine (HD.out _ HX1.out.2).mono ?_; rintro e w2 ⟨A9, c9, o, rfl, H9, hc9, hb2⟩; have HX2 := hid (bx_go HX1.out hb2)) | (go_at_call 14; refine (HR.out _ _ H9.out.sla).mono ?_; rintro e w3 ⟨A3, m3, c3, rfl, hb3⟩; have HX3 := hid (bx_go HX2.out hb3); have z0 : ∀ o, (w3.alloc o).cell? ⟨w.heap.size, 0, Option.none⟩ = some (.int .i64 g) := fun o => (HX3.out.1.keep (below_new _ _) HX3.out.1.lt).cell 0) | (go_at_call 37; refine (HFr.out _ _ _ ((HR7.out.sla.below (hb2.trans (hb3.mono hb2.size))).below (below_new _ _))).mono ?_; rintro e w4 ⟨A4, c4, rfl, HR4, hb4⟩; have HX4 := hid (bx_go HX3.out ((below_new _ _).trans (hb4.mono (by simp)))); have H94 := hid ((H9.out.keep hb3 H9.out.block_lt).keep ((below_new w3 _).trans (hb4.mono (by simp))) (Row.block_lt (H9.out.keep hb3 H9.out.block_lt)))) | (go_at_call 54; refine (HSw.out _ _ _ _ _ HX4.out.2 (slA_take9 H94.out.sla HLL.out N hN) (fun k q => row_off H94.out (fun k q => Nat.lt_of_lt_of_le (HFt.out k q) HX1.out.2.size) k (own_len q)) HBt.out).mono ?_; rintro e w5 ⟨rfl, F5, h5, m5⟩; have HM5 := hid (And.intro h5 m5); rw [hq]))
              go_ret
              rw [HP.out, hq]
              exact ⟨rfl, F5, HM5.out.1.upto (by omega), HM5.out.2.lift HX4.out.2⟩
          · have h22 : ¬ ((N : Int) < (ll : Int)) := by omega
            obtain ⟨q2, hw⟩ : ∃ q, (pWrite mN fr z p).1 = q := ⟨_, rfl⟩
            by_cases hw0 : q2 = 0
            · subst hw0
              have HP : Hid (pSave ⟨g, a, n, t⟩ z p = (0, (pSync mN (pWrite mN fr z p).2).2)) := by
                have e1 := HAn0.out
                rw [hw] at e1
                have e2 : pAdd mN fr z p = pSync mN (pWrite mN fr z p).2 := by unfold pAdd; rw [if_pos hw]
                unfold Hid; rw [HPs.out, if_neg hgn, if_neg h20, if_neg hNl, ← e2]
                exact Prod.ext e1 rfl
              clear hgn HPs
              go_enter Tryz.func23, Tryz.ntmps23
              go_wp2_with (first | (go_at_call 10; refine (HEn.out _ (below_new _ _)).mono ?_; rintro e w1 ⟨A7, c7, rfl, HR7, hb1⟩; have HX1 := hid (bx_keep hb1)) | (go_at_call 31; refine (HD.out _ HX1.out.2).mono ?_; rintro e w2 ⟨A9, c9, o, rfl, H9, hc9, hb2⟩; have HX2 := hid (bx_go HX1.out hb2)) | (go_at_call 14; refine (HR.out _ _ H9.out.sla).mono ?_; rintro e w3 ⟨A3, m3, c3, rfl, hb3⟩; have HX3 := hid (bx_go HX2.out hb3); have z0 : ∀ o, (w3.alloc o).cell? ⟨w.heap.size, 0, Option.none⟩ = some (.int .i64 g) := fun o => (HX3.out.1.keep (below_new _ _) HX3.out.1.lt).cell 0) | (go_at_call 37; refine (HFr.out _ _ _ ((HR7.out.sla.below (hb2.trans (hb3.mono hb2.size))).below (below_new _ _))).mono ?_; rintro e w4 ⟨A4, c4, rfl, HR4, hb4⟩; have HX4 := hid (bx_go HX3.out ((below_new _ _).trans (hb4.mono (by simp)))); have H94 := hid ((H9.out.keep hb3 H9.out.block_lt).keep ((below_new w3 _).trans (hb4.mono (by simp))) (Row.block_lt (H9.out.keep hb3 H9.out.block_lt))); have HN4 := row_off HR4.out fun k q => Nat.lt_of_lt_of_le (HFt.out k q) (Nat.le_trans HX3.out.2.size (by simp))) | (go_at_call 25; refine (HWr0.out _ _ _ HX4.out.2 HR4.out.sla fun _ => HN4).mono ?_; rintro e w6 ⟨rfl, F6, h6, m6⟩; have HM6 := hid (And.intro h6 m6); rw [hw]) | (go_at_call 55; refine (HSy0.out _ _ HM6.out.1).mono ?_; rintro e w7 ⟨q7, rfl, F7, h7, m7⟩))
              go_ret
              rw [HP.out]
              exact ⟨rfl, F7, h7.upto (by omega), (HM6.out.2.trans m7).lift HX4.out.2⟩
            · have HP : Hid (pSave ⟨g, a, n, t⟩ z p = pWrite mN fr z p) := by
                have e2 : pAdd mN fr z p = pWrite mN fr z p := by unfold pAdd; rw [if_neg (by rw [hw]; exact hw0)]
                unfold Hid; rw [HPs.out, if_neg hgn, if_neg h20, if_neg hNl, e2]
              have hwb : (q2 == 0) = false := by simpa using hw0
              clear hgn HPs hw0
              go_enter Tryz.func23, Tryz.ntmps23
              go_wp2_with (first | (go_at_call 10; refine (HEn.out _ (below_new _ _)).mono ?_; rintro e w1 ⟨A7, c7, rfl, HR7, hb1⟩; have HX1 := hid (bx_keep hb1)) | (go_at_call 31; refine (HD.out _ HX1.out.2).mono ?_; rintro e w2 ⟨A9, c9, o, rfl, H9, hc9, hb2⟩; have HX2 := hid (bx_go HX1.out hb2)) | (go_at_call 14; refine (HR.out _ _ H9.out.sla).mono ?_; rintro e w3 ⟨A3, m3, c3, rfl, hb3⟩; have HX3 := hid (bx_go HX2.out hb3); have z0 : ∀ o, (w3.alloc o).cell? ⟨w.heap.size, 0, Option.none⟩ = some (.int .i64 g) := fun o => (HX3.out.1.keep (below_new _ _) HX3.out.1.lt).cell 0) | (go_at_call 37; refine (HFr.out _ _ _ ((HR7.out.sla.below (hb2.trans (hb3.mono hb2.size))).below (below_new _ _))).mono ?_; rintro e w4 ⟨A4, c4, rfl, HR4, hb4⟩; have HX4 := hid (bx_go HX3.out ((below_new _ _).trans (hb4.mono (by simp)))); have H94 := hid ((H9.out.keep hb3 H9.out.block_lt).keep ((below_new w3 _).trans (hb4.mono (by simp))) (Row.block_lt (H9.out.keep hb3 H9.out.block_lt))); have HN4 := row_off HR4.out fun k q => Nat.lt_of_lt_of_le (HFt.out k q) (Nat.le_trans HX3.out.2.size (by simp))) | (go_at_call 25; refine (HWr0.out _ _ _ HX4.out.2 HR4.out.sla fun _ => HN4).mono ?_; rintro e w6 ⟨rfl, F6, h6, m6⟩; have HM6 := hid (And.intro h6 m6); rw [hw]))
              go_ret
              rw [HP.out, hw]
              exact ⟨rfl, F6, HM6.out.1.upto (by omega), HM6.out.2.lift HX4.out.2⟩
      · subst hg4
        have hgn : ¬ (0 < N ∧ g ≠ 0 + 1) := fun q => by omega
        clear hN0
        by_cases h20 : 2048 ≤ ll
        · have HP : Hid (pSave ⟨g, a, n, t⟩ z p = pRepl fr z p) := by unfold Hid; rw [HPs.out, if_neg hgn, if_pos h20]
          have h21 : 2048 ≤ (ll : Int) := by omega
          clear hgn HPs HWr5 HSy5 HWr0 HSy0
          go_enter Tryz.func23, Tryz.ntmps23
          go_wp2_with (first | (go_at_call 10; refine (HEn.out _ (below_new _ _)).mono ?_; rintro e w1 ⟨A7, c7, rfl, HR7, hb1⟩; have HX1 := hid (bx_keep hb1)) | (go_at_call 31; refine (HD.out _ HX1.out.2).mono ?_; rintro e w2 ⟨A9, c9, o, rfl, H9, hc9, hb2⟩; have HX2 := hid (bx_go HX1.out hb2)) | (go_at_call 14; refine (HR.out _ _ H9.out.sla).mono ?_; rintro e w3 ⟨A3, m3, c3, rfl, hb3⟩; have HX3 := hid (bx_go HX2.out hb3); have z0 : ∀ o, (w3.alloc o).cell? ⟨w.heap.size, 0, Option.none⟩ = some (.int .i64 g) := fun o => (HX3.out.1.keep (below_new _ _) HX3.out.1.lt).cell 0) | (go_at_call 37; refine (HFr.out _ _ _ ((HR7.out.sla.below (hb2.trans (hb3.mono hb2.size))).below (below_new _ _))).mono ?_; rintro e w4 ⟨A4, c4, rfl, HR4, hb4⟩; have HX4 := hid (bx_go HX3.out ((below_new _ _).trans (hb4.mono (by simp)))); have H94 := hid ((H9.out.keep hb3 H9.out.block_lt).keep ((below_new w3 _).trans (hb4.mono (by simp))) (Row.block_lt (H9.out.keep hb3 H9.out.block_lt)))) | (go_at_call 54; refine (HSw.out _ _ _ _ _ HX4.out.2 HR4.out.sla (row_off HR4.out fun k q => Nat.lt_of_lt_of_le (HFt.out k q) (Nat.le_trans HX3.out.2.size (by simp))) HBf.out).mono ?_; rintro e w5 ⟨rfl, F5, h5, m5⟩))
          go_ret
          rw [HP.out]
          exact ⟨rfl, F5, h5.upto (by omega), m5.lift HX4.out.2⟩
        have h21 : ¬ (2048 ≤ (ll : Int)) := by omega
        by_cases hNl : N < ll
        · obtain ⟨q, hq⟩ : ∃ q, (pRepl (l.take N) z p).1 = q := ⟨_, rfl⟩
          have h22 : (N : Int) < (ll : Int) := by omega
          by_cases hq0 : q = 0
          · subst hq0
            obtain ⟨q2, hw⟩ : ∃ q, (pWrite mN fr z (pRepl (l.take N) z p).2).1 = q := ⟨_, rfl⟩
            by_cases hw0 : q2 = 0
            · subst hw0
              have HP : Hid (pSave ⟨g, a, n, t⟩ z p = (0, (pSync mN (pWrite mN fr z (pRepl (l.take N) z p).2).2).2)) := by
                have e1 := HAn5.out
                rw [hw] at e1
                have e2 : pAdd mN fr z (pRepl (l.take N) z p).2 = pSync mN (pWrite mN fr z (pRepl (l.take N) z p).2).2 := by unfold pAdd; rw [if_pos hw]
                unfold Hid; rw [HPs.out, if_neg hgn, if_neg h20, if_pos hNl, if_pos hq, ← e2]
                exact Prod.ext e1 rfl
              clear hgn HPs
              go_enter Tryz.func23, Tryz.ntmps23
              go_wp2_with (first | (go_at_call 10; refine (HEn.out _ (below_new _ _)).mono ?_; rintro e w1 ⟨A7, c7, rfl, HR7, hb1⟩; have HX1 := hid (bx_keep hb1)) | (go_at_call 31; refine (HD.out _ HX1.out.2).mono ?_; rintro e w2 ⟨A9, c9, o, rfl, H9, hc9, hb2⟩; have HX2 := hid (bx_go HX1.out hb2)) | (go_at_call 14; refine (HR.out _ _ H9.out.sla).mono ?_; rintro e w3 ⟨A3, m3, c3, rfl, hb3⟩; have HX3 := hid (bx_go HX2.out hb3); have z0 : ∀ o, (w3.alloc o).cell? ⟨w.heap.size, 0, Option.none⟩ = some (.int .i64 g) := fun o => (HX3.out.1.keep (below_new _ _) HX3.out.1.lt).cell 0) | (go_at_call 37; refine (HFr.out _ _ _ ((HR7.out.sla.below (hb2.trans (hb3.mono hb2.size))).below (below_new _ _))).mono ?_; rintro e w4 ⟨A4, c4, rfl, HR4, hb4⟩; have HX4 := hid (bx_go HX3.out ((below_new _ _).trans (hb4.mono (by simp)))); have H94 := hid ((H9.out.keep hb3 H9.out.block_lt).keep ((below_new w3 _).trans (hb4.mono (by simp))) (Row.block_lt (H9.out.keep hb3 H9.out.block_lt))); have HN4 := row_off HR4.out fun k q => Nat.lt_of_lt_of_le (HFt.out k q) (Nat.le_trans HX3.out.2.size (by simp))) | (go_at_call 54; refine (HSw.out _ _ _ _ _ HX4.out.2 (slA_take9 H94.out.sla HLL.out N hN) (fun k q => row_off H94.out (fun k q => Nat.lt_of_lt_of_le (HFt.out k q) HX1.out.2.size) k (own_len q)) HBt.out).mono ?_; rintro e w5 ⟨rfl, F5, h5, m5⟩; have HM5 := hid (And.intro h5 m5); rw [hq]) | (go_at_call 25; refine (HWr5.out _ _ _ _ HM5.out.1 (HR4.out.sla.mr HM5.out.2 HN4) (not_mr HR4.out.sla HM5.out.2 HN4)).mono ?_; rintro e w6 ⟨rfl, F6, h6, m6⟩; have HM6 := hid (And.intro h6 (HM5.out.2.trans m6)); rw [hw]) | (go_at_call 55; refine (HSy5.out _ _ HM6.out.1).mono ?_; rintro e w7 ⟨q7, rfl, F7, h7, m7⟩))
              go_ret
              rw [HP.out]
              exact ⟨rfl, F7, h7.upto (by omega), (HM6.out.2.trans m7).lift HX4.out.2⟩
            · have HP : Hid (pSave ⟨g, a, n, t⟩ z p = pWrite mN fr z (pRepl (l.take N) z p).2) := by
                have e2 : pAdd mN fr z (pRepl (l.take N) z p).2 = pWrite mN fr z (pRepl (l.take N) z p).2 := by unfold pAdd; rw [if_neg (by rw [hw]; exact hw0)]
                unfold Hid; rw [HPs.out, if_neg hgn, if_neg h20, if_pos hNl, if_pos hq, e2]
              have hwb : (q2 == 0) = false := by simpa using hw0
              clear hgn HPs hw0
              go_enter Tryz.func23, Tryz.ntmps23
              go_wp2_with (first | (go_at_call 10; refine (HEn.out _ (below_new _ _)).mono ?_; rintro e w1 ⟨A7, c7, rfl, HR7, hb1⟩; have HX1 := hid (bx_keep hb1)) | (go_at_call 31; refine (HD.out _ HX1.out.2).mono ?_; rintro e w2 ⟨A9, c9, o, rfl, H9, hc9, hb2⟩; have HX2 := hid (bx_go HX1.out hb2)) | (go_at_call 14; refine (HR.out _ _ H9.out.sla).mono ?_; rintro e w3 ⟨A3, m3, c3, rfl, hb3⟩; have HX3 := hid (bx_go HX2.out hb3); have z0 : ∀ o, (w3.alloc o).cell? ⟨w.heap.size, 0, Option.none⟩ = some (.int .i64 g) := fun o => (HX3.out.1.keep (below_new _ _) HX3.out.1.lt).cell 0) | (go_at_call 37; refine (HFr.out _ _ _ ((HR7.out.sla.below (hb2.trans (hb3.mono hb2.size))).below (below_new _ _))).mono ?_; rintro e w4 ⟨A4, c4, rfl, HR4, hb4⟩; have HX4 := hid (bx_go HX3.out ((below_new _ _).trans (hb4.mono (by simp)))); have H94 := hid ((H9.out.keep hb3 H9.out.block_lt).keep ((below_new w3 _).trans (hb4.mono (by simp))) (Row.block_lt (H9.out.keep hb3 H9.out.block_lt))); have HN4 := row_off HR4.out fun k q => Nat.lt_of_lt_of_le (HFt.out k q) (Nat.le_trans HX3.out.2.size (by simp))) | (go_at_call 54; refine (HSw.out _ _ _ _ _ HX4.out.2 (slA_take9 H94.out.sla HLL.out N hN) (fun k q => row_off H94.out (fun k q => Nat.lt_of_lt_of_le (HFt.out k q) HX1.out.2.size) k (own_len q)) HBt.out).mono ?_; rintro e w5 ⟨rfl, F5, h5, m5⟩; have HM5 := hid (And.intro h5 m5); rw [hq]) | (go_at_call 25; refine (HWr5.out _ _ _ _ HM5.out.1 (HR4.out.sla.mr HM5.out.2 HN4) (not_mr HR4.out.sla HM5.out.2 HN4)).mono ?_; rintro e w6 ⟨rfl, F6, h6, m6⟩; have HM6 := hid (And.intro h6 (HM5.out.2.trans m6)); rw [hw]))
              go_ret
              rw [HP.out, hw]
              exact ⟨rfl, F6, HM6.out.1.upto (by omega), HM6.out.2.lift HX4.out.2⟩
          · have HP : Hid (pSave ⟨g, a, n, t⟩ z p = pRepl (l.take N) z p) := by unfold Hid; rw [HPs.out, if_neg hgn, if_neg h20, if_pos hNl, if_neg (fun e => hq0 (hq.symm.trans e))]
            have hqb : (q != 0) = true := by simpa using hq0
            clear hgn HPs hq0 HWr5 HSy5 HWr0 HSy0
            go_enter Tryz.func23, Tryz.ntmps23
            go_wp2_with (first | (go_at_call 10; refine (HEn.out _ (below_new _ _)).mono ?_; rintro e w1 ⟨A7, c7, rfl, HR7, hb1⟩; have HX1 := hid (bx_keep hb1)) | (go_at_call 31; refine (HD.out _ HX1.out.2).mono ?_; rintro e w2 ⟨A9, c9, o, rfl, H9, hc9, hb2⟩; have HX2 := hid (bx_go HX1.out hb2)) | (go_at_call 14; refine (HR.out _ _ H9.out.sla).mono ?_; rintro e w3 ⟨A3, m3, c3, rfl, hb3⟩; have HX3 := hid (bx_go HX2.out hb3); have z0 : ∀ o, (w3.alloc o).cell? ⟨w.heap.size, 0, Option.none⟩ = some (.int .i64 g) := fun o => (HX3.out.1.keep (below_new _ _) HX3.out.1.lt).cell 0) | (go_at_call 37; refine (HFr.out _ _ _ ((HR7.out.sla.below (hb2.trans (hb3.mono hb2.size))).below (below_new _ _))).mono ?_; rintro e w4 ⟨A4, c4, rfl, HR4, hb4⟩; have HX4 := hid (bx_go HX3.out ((below_new _ _).trans (hb4.mono (by simp)))); have H94 := hid ((H9.out.keep hb3 H9.out.block_lt).keep ((below_new w3 _).trans (hb4.mono (by simp))) (Row.block_lt (H9.out.keep hb3 H9.out.block_lt)))) | (go_at_call 54; refine (HSw.out _ _ _ _ _ HX4.out.2 (slA_take9 H94.out.sla HLL.out N hN) (fun k q => row_off H94.out (fun k q => Nat.lt_of_lt_of_le (HFt.out k q) HX1.out.2.size) k (own_len q)) HBt.out).mono ?_; rintro e w5 ⟨rfl, F5, h5, m5⟩; have HM5 := hid (And.intro h5 m5); rw [hq]))
            go_ret
            rw [HP.out, hq]
            exact ⟨rfl, F5, HM5.out.1.upto (by omega), HM5.out.2.lift HX4.out.2⟩
        · have h22 : ¬ ((N : Int) < (ll : Int)) := by omega
          obtain ⟨q2, hw⟩ : ∃ q, (pWrite mN fr z p).1 = q := ⟨_, rfl⟩
          by_cases hw0 : q2 = 0
          · subst hw0
            have HP : Hid (pSave ⟨g, a, n, t⟩ z p = (0, (pSync mN (pWrite mN fr z p).2).2)) := by
              have e1 := HAn0.out
              rw [hw] at e1
              have e2 : pAdd mN fr z p = pSync mN (pWrite mN fr z p).2 := by unfold pAdd; rw [if_pos hw]
              unfold Hid; rw [HPs.out, if_neg hgn, if_neg h20, if_neg hNl, ← e2]
              exact Prod.ext e1 rfl
            clear hgn HPs
            go_enter Tryz.func23, Tryz.ntmps23
            go_wp2_with (first | (go_at_call 10; refine (HEn.out _ (below_new _ _)).mono ?_; rintro e w1 ⟨A7, c7, rfl, HR7, hb1⟩; have HX1 := hid (bx_keep hb1)) | (go_at_call 31; refine (HD.out _ HX1.out.2).mono ?_; rintro e w2 ⟨A9, c9, o, rfl, H9, hc9, hb2⟩; have HX2 := hid (bx_go HX1.out hb2)) | (go_at_call 14; refine (HR.out _ _ H9.out.sla).mono ?_; rintro e w3 ⟨A3, m3, c3, rfl, hb3⟩; have HX3 := hid (bx_go HX2.out hb3); have z0 : ∀ o, (w3.alloc o).cell? ⟨w.heap.size, 0, Option.none⟩ = some (.int .i64 g) := fun o => (HX3.out.1.keep (below_new _ _) HX3.out.1.lt).cell 0) | (go_at_call 37; refine (HFr.out _ _ _ ((HR7.out.sla.below (hb2.trans (hb3.mono hb2.size))).below (below_new _ _))).mono ?_; rintro e w4 ⟨A4, c4, rfl, HR4, hb4⟩; have HX4 := hid (bx_go HX3.out ((below_new _ _).trans (hb4.mono (by simp)))); have H94 := hid ((H9.out.keep hb3 H9.out.block_lt).keep ((below_new w3 _).trans (hb4.mono (by simp))) (Row.block_lt (H9.out.keep hb3 H9.out.block_lt))); have HN4 := row_off HR4.out fun k q => Nat.lt_of_lt_of_le (HFt.out k q) (Nat.le_trans HX3.out.2.size (by simp))) | (go_at_call 25; refine (HWr0.out _ _ _ HX4.out.2 HR4.out.sla fun _ => HN4).mono ?_; rintro e w6 ⟨rfl, F6, h6, m6⟩; have HM6 := hid (And.intro h6 m6); rw [hw]) | (go_at_call 55; refine (HSy0.out _ _ HM6.out.1).mono ?_; rintro e w7 ⟨q7, rfl, F7, h7, m7⟩))
            go_ret
            rw [HP.out]
            exact ⟨rfl, F7, h7.upto (by omega), (HM6.out.2.trans m7).lift HX4.out.2⟩
          · have HP : Hid (pSave ⟨g, a, n, t⟩ z p = pWrite mN fr z p) := by
              have e2 : pAdd mN fr z p = pWrite mN fr z p := by unfold pAdd; rw [if_neg (by rw [hw]; exact hw0)]
              unfold Hid; rw [HPs.out, if_neg hgn, if_neg h20, if_neg hNl, e2]
            have hwb : (q2 == 0) = false := by simpa using hw0
            clear hgn HPs hw0
            go_enter Tryz.func23, Tryz.ntmps23
            go_wp2_with (first | (go_at_call 10; refine (HEn.out _ (below_new _ _)).mono ?_; rintro e w1 ⟨A7, c7, rfl, HR7, hb1⟩; have HX1 := hid (bx_keep hb1)) | (go_at_call 31; refine (HD.out _ HX1.out.2).mono ?_; rintro e w2 ⟨A9, c9, o, rfl, H9, hc9, hb2⟩; have HX2 := hid (bx_go HX1.out hb2)) | (go_at_call 14; refine (HR.out _ _ H9.out.sla).mono ?_; rintro e w3 ⟨A3, m3, c3, rfl, hb3⟩; have HX3 := hid (bx_go HX2.out hb3); have z0 : ∀ o, (w3.alloc o).cell? ⟨w.heap.size, 0, Option.none⟩ = some (.int .i64 g) := fun o => (HX3.out.1.keep (below_new _ _) HX3.out.1.lt).cell 0) | (go_at_call 37; refine (HFr.out _ _ _ ((HR7.out.sla.below (hb2.trans (hb3.mono hb2.size))).below (below_new _ _))).mono ?_; rintro e w4 ⟨A4, c4, rfl, HR4, hb4⟩; have HX4 := hid (bx_go HX3.out ((below_new _ _).trans (hb4.mono (by simp)))); have H94 := hid ((H9.out.keep hb3 H9.out.block_lt).keep ((below_new w3 _).trans (hb4.mono (by simp))) (Row.block_lt (H9.out.keep hb3 H9.out.block_lt))); have HN4 := row_off HR4.out fun k q => Nat.lt_of_lt_of_le (HFt.out k q) (Nat.le_trans HX3.out.2.size (by simp))) | (go_at_call 25; refine (HWr0.out _ _ _ HX4.out.2 HR4.out.sla fun _ => HN4).mono ?_; rintro e w6 ⟨rfl, F6, h6, m6⟩; have HM6 := hid (And.intro h6 m6); rw [hw]))
            go_ret
            rw [HP.out, hw]
            exact ⟨rfl, F6, HM6.out.1.upto (by omega), HM6.out.2.lift HX4.out.2⟩
end Go.Proofs.YtofkfafdodhmdaaGreatDoor
