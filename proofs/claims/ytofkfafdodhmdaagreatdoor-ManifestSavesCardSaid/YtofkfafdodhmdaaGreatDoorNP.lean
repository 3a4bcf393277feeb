/- Several texts in one: MfQ MfR MfS. Conditions: as each theorem names them. -/
import Derived.Test.YtofkfafdodhmdaaGreatDoorNO
import Derived.Lib.SmallJoins
/- package manifest's Save. Conditions: the disk stands and is good behind at most 990 calls; the manifest has a million bytes at most. -/
namespace Go.Proofs.YtofkfafdodhmdaaGreatDoor
open Go.RowKit

theorem box_keep {w w1 : World} {g a n : Int} {V : Value} (hb : Below (w.alloc (.cells #[.int .i64 g, .int .i64 a, .int .i64 n, V] 29)).heap.size (w.alloc (.cells #[.int .i64 g, .int .i64 a, .int .i64 n, V] 29)) w1) : Blk w1 w.heap.size 29 #[.int .i64 g, .int .i64 a, .int .i64 n, V] ∧ Below w.heap.size w w1 :=
  ⟨(Blk.new w _ _).keep hb (by simp), (below_new w _).trans (hb.mono (by simp))⟩
theorem box_go {w w1 w2 : World} {g a n : Int} {V : Value} (h : Blk w1 w.heap.size 29 #[.int .i64 g, .int .i64 a, .int .i64 n, V] ∧ Below w.heap.size w w1) (hb : Below w1.heap.size w1 w2) : Blk w2 w.heap.size 29 #[.int .i64 g, .int .i64 a, .int .i64 n, V] ∧ Below w.heap.size w w2 :=
  ⟨h.1.keep hb h.1.lt, h.2.trans (hb.mono h.2.size)⟩
theorem own_len {A : Option Addr} {n m c d k : Nat} (h : (Value.slice A n c).ownBlock = some k) : (Value.slice A m d).ownBlock = some k := by
  cases A with
  | none => cases h
  | some ad => exact h
theorem slA_take9 {w : World} {A : Option Addr} {n c : Nat} {l : List UInt8} (h : SlA w (.slice A n c) l) (hn : l.length = n) (t : Nat) (ht : t ≤ n) : SlA w (.slice A t c) (l.take t) := by
  obtain ⟨A', c', e, h1, h2, h3, h4⟩ := h
  injection e with e1 e2 e3
  subst e1; subst e3
  have el : (l.take t).length = t := by rw [List.length_take]; omega
  refine ⟨A, c, by rw [el], by omega, h2, fun h0 => ?_, h4⟩
  obtain ⟨b, off, rfl, hh⟩ := h3 (by omega)
  refine ⟨b, off, rfl, fun i hi => ?_⟩
  rw [hh i (by omega)]
  simp only [List.getD_eq_getElem?_getD, List.getElem?_take_of_lt (show i < t by omega)]
theorem row_off {w : World} {B : Nat} {v : Value} {l : List UInt8} {S : Nat → Prop} (h : Row w B v l) (hs : ∀ k, S k → k < B) : ∀ k, v.ownBlock = some k → ¬ S k := fun k q r => by
  have h1 := (World.ownsRow.lt h k q).1
  have h2 := hs k r
  omega
set_option maxRecDepth 100000 in
set_option maxHeartbeats 16000000 in
theorem save9_any {w : World} {B db mb i : Nat} {z : Int} {fs : List Fl} {p : PV} (h : Sd w B db mb z i fs p) (hi : i ≤ 990) (hz : 0 ≤ z ∧ z ≤ 16777216) (s : Sta) (v : Value) (hv : SlI w v s.t) (hl : (rdM p).length ≤ 1000000) :
    Calls Tryz.prog 22 #[.pointer (some ⟨db, 0, none⟩), .string mN, staV s.g s.a s.n v] w fun e w' => e = .returned (.int .i64 (pSave s z p).1) ∧ ∃ fs', Sd w' B db mb z (i + 6) fs' (pSave s z p).2 ∧ Mv w w' db mb fs fs' := by
  have HFt : Hid (∀ k, Ft db mb fs k → k < w.heap.size) := fun k q => (h.lt q).2
  have HSd : Hid (Sd w B db mb z i fs p) := h
  have HEn0 : Hid (∀ W, Below w.heap.size w W → Calls Tryz.prog 8 #[staV s.g s.a s.n v] W (EcEnd W s)) := fun W hW => encode_any s v W (hv.below hW)
  have HE0 : Hid (∀ (e : Ending) (w' : World), e = .returned (.int .i64 (pSave s z p).1) → (pSave s z p).2 = p → Below w.heap.size w w' → e = .returned (.int .i64 (pSave s z p).1) ∧ ∃ fs', Sd w' B db mb z (i + 6) fs' (pSave s z p).2 ∧ Mv w w' db mb fs fs') := fun e w' h1 h2 h3 => ⟨h1, fs, by rw [h2]; exact (h.below h3).upto (by omega), Mv.of_below h3⟩
  have HP0 := hid (rfl : pSave s z p = pSave s z p)
  unfold pSave at HP0
  obtain ⟨A, c, ev, _⟩ := hv
  obtain ⟨g, a, n, t⟩ := s
  dsimp only at ev HEn0 ⊢
  subst ev
  cases hr : (⟨g, a, n, t⟩ : Sta).right with
  | false =>
    have HP : Hid (pSave ⟨g, a, n, t⟩ z p = (10, p)) := by unfold Hid pSave; rw [if_neg (by rw [hr]; decide)]
    have HEn : Hid (∀ W, Below w.heap.size w W → Calls Tryz.prog 8 #[staV g a n (.slice A t.length c)] W fun e w' => e = .returned (.tuple #[.slice Option.none 0 0, .bool false]) ∧ Below W.heap.size W w') := fun W hW => by
      refine (HEn0.out W hW).mono ?_
      rintro e w' ⟨h1, h2⟩
      rw [if_neg (by rw [hr]; decide)] at h1
      exact ⟨h1, h2⟩
    clear h hi hz hl hr HEn0 HP0
    generalize t.length = mt at *
    go_enter Tryz.func22, Tryz.ntmps22
    go_wp2_with (go_at_call 8; refine (HEn.out _ (below_new _ _)).mono ?_; rintro e w1 ⟨rfl, hb1⟩)
    go_ret
    exact HE0.out _ _ (by rw [HP.out]; rfl) (by rw [HP.out]) ((below_new _ _).trans (hb1.mono (by simp)))
  | true =>
    obtain ⟨l, el⟩ : ∃ l, rdM p = l := ⟨_, rfl⟩
    obtain ⟨ll, hll⟩ : ∃ ll, l.length = ll := ⟨_, rfl⟩
    obtain ⟨ne, hne⟩ : ∃ ne, (⟨g, a, n, t⟩ : Sta).enc.length = ne := ⟨_, rfl⟩
    obtain ⟨nf, hnf⟩ : ∃ nf, (frameM (⟨g, a, n, t⟩ : Sta).enc).length = nf := ⟨_, rfl⟩
    have hok := (Sta.right_iff _).1 hr
    have hel := enc_len hok
    have hg0 := hok.g0
    have hg1 := hok.g1
    dsimp only at hg0 hg1
    have HEn : Hid (∀ W, Below w.heap.size w W → Calls Tryz.prog 8 #[staV g a n (.slice A t.length c)] W fun e w' => ∃ A7 c7, e = .returned (.tuple #[.slice A7 ne c7, .bool true]) ∧ Hid (Row w' W.heap.size (.slice A7 ne c7) (⟨g, a, n, t⟩ : Sta).enc) ∧ Below W.heap.size W w') := fun W hW => by
      refine (HEn0.out W hW).mono ?_
      rintro e w' ⟨h1, h2⟩
      rw [if_pos hr] at h1
      obtain ⟨u, rfl, h3⟩ := h1
      obtain ⟨A7, c7, rfl, _⟩ := id h3.sla
      rw [hne] at h3 ⊢
      exact ⟨A7, c7, rfl, h3, h2⟩
    have HD : Hid (∀ W, Below w.heap.size w W → Calls Tryz.prog 30 #[.pointer (some ⟨db, 0, none⟩), .string mN] W fun e w' => ∃ A9 c9 o, e = .returned (.tuple #[.slice A9 ll c9, .bool o]) ∧ Hid (Row w' W.heap.size (.slice A9 ll c9) l) ∧ ll ≤ c9 ∧ Below W.heap.size W w') := fun W hW => by
      refine (read9m (h.below hW) hl).mono ?_
      rintro e w' ⟨u, o, rfl, h1, h2⟩
      rw [el] at h1
      obtain ⟨A9, c9, rfl, h4, _⟩ := id h1.sla
      rw [hll] at h1 h4 ⊢
      exact ⟨A9, c9, o, rfl, h1, h4, h2⟩
    have HR0 : Hid (∀ W u, SlA W u l → Calls Tryz.prog 13 #[u] W (RdsEnd W l)) := fun W u hu => read9_any u l (by rw [← el]; exact hl) W hu
    have HFr : Hid (∀ W A7 c7, SlA W (.slice A7 ne c7) (⟨g, a, n, t⟩ : Sta).enc → Calls Tryz.prog 51 #[.slice A7 ne c7] W fun e w' => ∃ A4 c4, e = .returned (.tuple #[.slice A4 nf c4, .bool true]) ∧ Hid (Row w' W.heap.size (.slice A4 nf c4) (frameM (⟨g, a, n, t⟩ : Sta).enc)) ∧ Below W.heap.size W w') := fun W A7 c7 h7 => by
      refine (frame_any _ _ (by omega) W h7).mono ?_
      rintro e w' ⟨u, rfl, h1, h2⟩
      obtain ⟨A4, c4, rfl, _⟩ := id h1.sla
      rw [hnf] at h1 ⊢
      exact ⟨A4, c4, rfl, h1, h2⟩
    have hl2 : ll ≤ 1000000 := by rw [← hll, ← el]; exact hl
    have HLL := hid hll
    have HNF := hid hnf
    have HEL := hid el
    clear HEn0 HP0 hok hel hne hnf
    cases hrs : readS l with
    | none =>
      have HP : Hid (pSave ⟨g, a, n, t⟩ z p = (20, p)) := by unfold Hid pSave; rw [if_pos hr, el, hrs]
      have HR : Hid (∀ W u, SlA W u l → Calls Tryz.prog 13 #[u] W fun e w' => e = .returned (.tuple #[staV 0 0 0 (.slice Option.none 0 0), .int .i64 0, .int .i64 20]) ∧ Below W.heap.size W w') := fun W u hu => by
        refine (HR0.out W u hu).mono ?_
        rintro e w' ⟨h1, h2⟩
        rw [hrs] at h1
        exact ⟨h1, h2⟩
      clear h hi hz hl hr hrs HR0 el hll
      generalize t.length = mt at *
      go_enter Tryz.func22, Tryz.ntmps22
      go_wp2_with (first | (go_at_call 8; refine (HEn.out _ (below_new _ _)).mono ?_; rintro e w1 ⟨A7, c7, rfl, HR7, hb1⟩; have HX1 := hid (box_keep hb1)) | (go_at_call 30; refine (HD.out _ HX1.out.2).mono ?_; rintro e w2 ⟨A9, c9, o, rfl, H9, hc9, hb2⟩; have HX2 := hid (box_go HX1.out hb2)) | (go_at_call 13; refine (HR.out _ _ H9.out.sla).mono ?_; rintro e w3 ⟨rfl, hb3⟩; have HX3 := hid (box_go HX2.out hb3)))
      go_ret
      exact HE0.out _ _ (by rw [HP.out]; rfl) (by rw [HP.out]) (box_go HX3.out (below_new _ _)).2
    | some pr =>
      obtain ⟨⟨g3, a3, n3, t3⟩, N⟩ := pr
      have HR : Hid (∀ W u, SlA W u l → Calls Tryz.prog 13 #[u] W fun e w' => ∃ A3 m3 c3, e = .returned (.tuple #[staV g3 a3 n3 (.slice A3 m3 c3), .int .i64 (N : Int), .int .i64 0]) ∧ Below W.heap.size W w') := fun W u hu => by
        refine (HR0.out W u hu).mono ?_
        rintro e w' ⟨h1, h2⟩
        rw [hrs] at h1
        obtain ⟨v3, rfl, h3, h4⟩ := h1
        obtain ⟨A3, c3, rfl, _⟩ := id h3
        exact ⟨A3, _, c3, rfl, h2⟩
      have hN := readS_le hrs
      rw [hll] at hN
      have hg3 : 0 < N → 1 ≤ g3 ∧ g3 ≤ 1099511627776 := fun h0 => by
        have := (Sta.right_iff _).1 ((readS_gen hrs).1 h0)
        exact ⟨this.g0, this.g1⟩
      have HPs : Hid (pSave ⟨g, a, n, t⟩ z p = if 0 < N ∧ g ≠ g3 + 1 then (10, p) else if 2048 ≤ ll then pRepl (frameM (⟨g, a, n, t⟩ : Sta).enc) z p else if N < ll then (if (pRepl (l.take N) z p).1 = 0 then pAdd mN (frameM (⟨g, a, n, t⟩ : Sta).enc) z (pRepl (l.take N) z p).2 else pRepl (l.take N) z p) else pAdd mN (frameM (⟨g, a, n, t⟩ : Sta).enc) z p) := by unfold Hid pSave; rw [if_pos hr, el, hrs, hll]
      have HRp : Hid (∀ W A c m b, Below w.heap.size w W → SlA W (.slice A m c) b → (∀ k, (Value.slice A m c).ownBlock = some k → ¬ Ft db mb fs k) → Calls Tryz.prog 52 #[.pointer (some ⟨db, 0, none⟩), .string mN, .slice A m c] W fun e w' => e = .returned (.int .i64 (pRepl b z p).1) ∧ ∃ fs', Sd w' B db mb z (i + 4) fs' (pRepl b z p).2 ∧ Mv W w' db mb fs fs') := fun W A c m b hW hS ho => repl9 (h.below hW) hi hz _ b hS ho
      have HAd : Hid (∀ W j fs1 p1 A c m b, Sd W B db mb z j fs1 p1 → j ≤ 999 → SlA W (.slice A m c) b → Calls Tryz.prog 53 #[.pointer (some ⟨db, 0, none⟩), .string mN, .slice A m c] W fun e w' => e = .returned (.int .i64 (pAdd mN b z p1).1) ∧ ∃ fs', Sd w' B db mb z (j + 2) fs' (pAdd mN b z p1).2 ∧ Mv W w' db mb fs1 fs') := fun W j fs1 p1 A c m b hS hj hb => add9 hS hj hz mN (by decide) _ b hb
      have hi2 : i + 4 ≤ 999 := by omega
      have hi3 : i ≤ 999 := by omega
      clear hrs HR0 hr h hz hl el hll HEL
      generalize t.length = mt at *
      by_cases hgn : 0 < N ∧ g ≠ g3 + 1
      · have HP : Hid (pSave ⟨g, a, n, t⟩ z p = (10, p)) := by unfold Hid; rw [HPs.out, if_pos hgn]
        obtain ⟨hg4, hg5⟩ := hg3 hgn.1
        have hN0 : 0 < N := hgn.1
        have hN1 : 0 < (N : Int) := by omega
        have hgb : (g != g3 + 1) = true := by simpa using hgn.2
        clear hgn hg3 HPs HRp HAd HFr
        go_enter Tryz.func22, Tryz.ntmps22
        go_wp2_with (first | (go_at_call 8; refine (HEn.out _ (below_new _ _)).mono ?_; rintro e w1 ⟨A7, c7, rfl, HR7, hb1⟩; have HX1 := hid (box_keep hb1)) | (go_at_call 30; refine (HD.out _ HX1.out.2).mono ?_; rintro e w2 ⟨A9, c9, o, rfl, H9, hc9, hb2⟩; have HX2 := hid (box_go HX1.out hb2)) | (go_at_call 13; refine (HR.out _ _ H9.out.sla).mono ?_; rintro e w3 ⟨A3, m3, c3, rfl, hb3⟩; have HX3 := hid (box_go HX2.out hb3); have z0 : ∀ o, (w3.alloc o).cell? ⟨w.heap.size, 0, Option.none⟩ = some (.int .i64 g) := fun o => (HX3.out.1.keep (below_new _ _) HX3.out.1.lt).cell 0))
        go_ret
        exact HE0.out _ _ (by rw [HP.out]; rfl) (by rw [HP.out]) (box_go HX3.out (below_new _ _)).2
      by_cases hN0 : 0 < N
      · obtain ⟨hg4, hg5⟩ := hg3 hN0
        have hN1 : 0 < (N : Int) := by omega
        have hgb : (g != g3 + 1) = false := by simp; omega
        by_cases h20 : 2048 ≤ ll
        · have HP : Hid (pSave ⟨g, a, n, t⟩ z p = pRepl (frameM (⟨g, a, n, t⟩ : Sta).enc) z p) := by unfold Hid; rw [HPs.out, if_neg hgn, if_pos h20]
          have h21 : 2048 ≤ (ll : Int) := by omega
          clear hgn hg3 HPs HAd
          go_enter Tryz.func22, Tryz.ntmps22
          go_wp2_with (first | (go_at_call 8; refine (HEn.out _ (below_new _ _)).mono ?_; rintro e w1 ⟨A7, c7, rfl, HR7, hb1⟩; have HX1 := hid (box_keep hb1)) | (go_at_call 30; refine (HD.out _ HX1.out.2).mono ?_; rintro e w2 ⟨A9, c9, o, rfl, H9, hc9, hb2⟩; have HX2 := hid (box_go HX1.out hb2)) | (go_at_call 13; refine (HR.out _ _ H9.out.sla).mono ?_; rintro e w3 ⟨A3, m3, c3, rfl, hb3⟩; have HX3 := hid (box_go HX2.out hb3); have z0 : ∀ o, (w3.alloc o).cell? ⟨w.heap.size, 0, Option.none⟩ = some (.int .i64 g) := fun o => (HX3.out.1.keep (below_new _ _) HX3.out.1.lt).cell 0) | (go_at_call 51; refine (HFr.out _ _ _ ((HR7.out.sla.below (hb2.trans (hb3.mono hb2.size))).below (below_new _ _))).mono ?_; rintro e w4 ⟨A4, c4, rfl, HR4, hb4⟩; have HX4 := hid (box_go HX3.out ((below_new _ _).trans (hb4.mono (by simp)))); have H94 := hid ((H9.out.keep hb3 H9.out.block_lt).keep ((below_new w3 _).trans (hb4.mono (by simp))) (Row.block_lt (H9.out.keep hb3 H9.out.block_lt)))) | (go_at_call 52; refine (HRp.out _ _ _ _ _ HX4.out.2 HR4.out.sla (row_off HR4.out fun k q => Nat.lt_of_lt_of_le (HFt.out k q) (Nat.le_trans HX3.out.2.size (by simp)))).mono ?_; rintro e w5 ⟨rfl, fs5, h5, m5⟩))
          go_ret
          rw [HP.out]
          exact ⟨rfl, fs5, h5.upto (by omega), m5.lift HX4.out.2⟩
        by_cases hNl : N < ll
        · obtain ⟨q, hq⟩ : ∃ q, (pRepl (l.take N) z p).1 = q := ⟨_, rfl⟩
          have h21 : ¬ (2048 ≤ (ll : Int)) := by omega
          have h22 : (N : Int) < (ll : Int) := by omega
          by_cases hq0 : q = 0
          · have HP : Hid (pSave ⟨g, a, n, t⟩ z p = pAdd mN (frameM (⟨g, a, n, t⟩ : Sta).enc) z (pRepl (l.take N) z p).2) := by unfold Hid; rw [HPs.out, if_neg hgn, if_neg h20, if_pos hNl, if_pos (hq.trans hq0)]
            subst hq0
            clear hgn hg3 HPs
            go_enter Tryz.func22, Tryz.ntmps22
            go_wp2_with (first | (go_at_call 8; refine (HEn.out _ (below_new _ _)).mono ?_; rintro e w1 ⟨A7, c7, rfl, HR7, hb1⟩; have HX1 := hid (box_keep hb1)) | (go_at_call 30; refine (HD.out _ HX1.out.2).mono ?_; rintro e w2 ⟨A9, c9, o, rfl, H9, hc9, hb2⟩; have HX2 := hid (box_go HX1.out hb2)) | (go_at_call 13; refine (HR.out _ _ H9.out.sla).mono ?_; rintro e w3 ⟨A3, m3, c3, rfl, hb3⟩; have HX3 := hid (box_go HX2.out hb3); have z0 : ∀ o, (w3.alloc o).cell? ⟨w.heap.size, 0, Option.none⟩ = some (.int .i64 g) := fun o => (HX3.out.1.keep (below_new _ _) HX3.out.1.lt).cell 0) | (go_at_call 51; refine (HFr.out _ _ _ ((HR7.out.sla.below (hb2.trans (hb3.mono hb2.size))).below (below_new _ _))).mono ?_; rintro e w4 ⟨A4, c4, rfl, HR4, hb4⟩; have HX4 := hid (box_go HX3.out ((below_new _ _).trans (hb4.mono (by simp)))); have H94 := hid ((H9.out.keep hb3 H9.out.block_lt).keep ((below_new w3 _).trans (hb4.mono (by simp))) (Row.block_lt (H9.out.keep hb3 H9.out.block_lt)))) | (go_at_call 52; refine (HRp.out _ _ _ _ _ HX4.out.2 (slA_take9 H94.out.sla HLL.out N hN) (fun k q => row_off H94.out (fun k q => Nat.lt_of_lt_of_le (HFt.out k q) HX1.out.2.size) k (own_len q))).mono ?_; rintro e w5 ⟨rfl, fs5, h5, m5⟩; have HM5 := hid (And.intro h5 m5); rw [hq]) | (go_at_call 53; refine (HAd.out _ _ _ _ _ _ _ _ HM5.out.1 hi2 (HR4.out.sla.mv HM5.out.2 (row_off HR4.out fun k q => Nat.lt_of_lt_of_le (HFt.out k q) (Nat.le_trans HX3.out.2.size (by simp))))).mono ?_; rintro e w6 ⟨rfl, fs6, h6, m6⟩))
            go_ret
            rw [HP.out]
            exact ⟨rfl, fs6, h6, (HM5.out.2.trans m6).lift HX4.out.2⟩
          · have HP : Hid (pSave ⟨g, a, n, t⟩ z p = pRepl (l.take N) z p) := by unfold Hid; rw [HPs.out, if_neg hgn, if_neg h20, if_pos hNl, if_neg (fun e => hq0 (hq.symm.trans e))]
            have hqb : (q != 0) = true := by simpa using hq0
            clear hgn hg3 HPs HAd hq0
            go_enter Tryz.func22, Tryz.ntmps22
            go_wp2_with (first | (go_at_call 8; refine (HEn.out _ (below_new _ _)).mono ?_; rintro e w1 ⟨A7, c7, rfl, HR7, hb1⟩; have HX1 := hid (box_keep hb1)) | (go_at_call 30; refine (HD.out _ HX1.out.2).mono ?_; rintro e w2 ⟨A9, c9, o, rfl, H9, hc9, hb2⟩; have HX2 := hid (box_go HX1.out hb2)) | (go_at_call 13; refine (HR.out _ _ H9.out.sla).mono ?_; rintro e w3 ⟨A3, m3, c3, rfl, hb3⟩; have HX3 := hid (box_go HX2.out hb3); have z0 : ∀ o, (w3.alloc o).cell? ⟨w.heap.size, 0, Option.none⟩ = some (.int .i64 g) := fun o => (HX3.out.1.keep (below_new _ _) HX3.out.1.lt).cell 0) | (go_at_call 51; refine (HFr.out _ _ _ ((HR7.out.sla.below (hb2.trans (hb3.mono hb2.size))).below (below_new _ _))).mono ?_; rintro e w4 ⟨A4, c4, rfl, HR4, hb4⟩; have HX4 := hid (box_go HX3.out ((below_new _ _).trans (hb4.mono (by simp)))); have H94 := hid ((H9.out.keep hb3 H9.out.block_lt).keep ((below_new w3 _).trans (hb4.mono (by simp))) (Row.block_lt (H9.out.keep hb3 H9.out.block_lt)))) | (go_at_call 52; refine (HRp.out _ _ _ _ _ HX4.out.2 (slA_take9 H94.out.sla HLL.out N hN) (fun k q => row_off H94.out (fun k q => Nat.lt_of_lt_of_le (HFt.out k q) HX1.out.2.size) k (own_len q))).mono ?_; rintro e w5 ⟨rfl, fs5, h5, m5⟩; have HM5 := hid (And.intro h5 m5); rw [hq]))
            go_ret
            rw [HP.out, hq]
            exact ⟨rfl, fs5, HM5.out.1.upto (by omega), HM5.out.2.lift HX4.out.2⟩
        · have HP : Hid (pSave ⟨g, a, n, t⟩ z p = pAdd mN (frameM (⟨g, a, n, t⟩ : Sta).enc) z p) := by unfold Hid; rw [HPs.out, if_neg hgn, if_neg h20, if_neg hNl]
          have h21 : ¬ (2048 ≤ (ll : Int)) := by omega
          have h22 : ¬ ((N : Int) < (ll : Int)) := by omega
          clear hgn hg3 HPs HRp
          go_enter Tryz.func22, Tryz.ntmps22
          go_wp2_with (first | (go_at_call 8; refine (HEn.out _ (below_new _ _)).mono ?_; rintro e w1 ⟨A7, c7, rfl, HR7, hb1⟩; have HX1 := hid (box_keep hb1)) | (go_at_call 30; refine (HD.out _ HX1.out.2).mono ?_; rintro e w2 ⟨A9, c9, o, rfl, H9, hc9, hb2⟩; have HX2 := hid (box_go HX1.out hb2)) | (go_at_call 13; refine (HR.out _ _ H9.out.sla).mono ?_; rintro e w3 ⟨A3, m3, c3, rfl, hb3⟩; have HX3 := hid (box_go HX2.out hb3); have z0 : ∀ o, (w3.alloc o).cell? ⟨w.heap.size, 0, Option.none⟩ = some (.int .i64 g) := fun o => (HX3.out.1.keep (below_new _ _) HX3.out.1.lt).cell 0) | (go_at_call 51; refine (HFr.out _ _ _ ((HR7.out.sla.below (hb2.trans (hb3.mono hb2.size))).below (below_new _ _))).mono ?_; rintro e w4 ⟨A4, c4, rfl, HR4, hb4⟩; have HX4 := hid (box_go HX3.out ((below_new _ _).trans (hb4.mono (by simp)))); have H94 := hid ((H9.out.keep hb3 H9.out.block_lt).keep ((below_new w3 _).trans (hb4.mono (by simp))) (Row.block_lt (H9.out.keep hb3 H9.out.block_lt)))) | (go_at_call 53; refine (HAd.out _ _ _ _ _ _ _ _ (HSd.out.below HX4.out.2) hi3 HR4.out.sla).mono ?_; rintro e w6 ⟨rfl, fs6, h6, m6⟩))
          go_ret
          rw [HP.out]
          exact ⟨rfl, fs6, h6.upto (by omega), m6.lift HX4.out.2⟩
      · have hN1 : ¬ (0 < (N : Int)) := by omega
        by_cases h20 : 2048 ≤ ll
        · have HP : Hid (pSave ⟨g, a, n, t⟩ z p = pRepl (frameM (⟨g, a, n, t⟩ : Sta).enc) z p) := by unfold Hid; rw [HPs.out, if_neg hgn, if_pos h20]
          have h21 : 2048 ≤ (ll : Int) := by omega
          clear hgn hg3 HPs HAd
          go_enter Tryz.func22, Tryz.ntmps22
          go_wp2_with (first | (go_at_call 8; refine (HEn.out _ (below_new _ _)).mono ?_; rintro e w1 ⟨A7, c7, rfl, HR7, hb1⟩; have HX1 := hid (box_keep hb1)) | (go_at_call 30; refine (HD.out _ HX1.out.2).mono ?_; rintro e w2 ⟨A9, c9, o, rfl, H9, hc9, hb2⟩; have HX2 := hid (box_go HX1.out hb2)) | (go_at_call 13; refine (HR.out _ _ H9.out.sla).mono ?_; rintro e w3 ⟨A3, m3, c3, rfl, hb3⟩; have HX3 := hid (box_go HX2.out hb3); have z0 : ∀ o, (w3.alloc o).cell? ⟨w.heap.size, 0, Option.none⟩ = some (.int .i64 g) := fun o => (HX3.out.1.keep (below_new _ _) HX3.out.1.lt).cell 0) | (go_at_call 51; refine (HFr.out _ _ _ ((HR7.out.sla.below (hb2.trans (hb3.mono hb2.size))).below (below_new _ _))).mono ?_; rintro e w4 ⟨A4, c4, rfl, HR4, hb4⟩; have HX4 := hid (box_go HX3.out ((below_new _ _).trans (hb4.mono (by simp)))); have H94 := hid ((H9.out.keep hb3 H9.out.block_lt).keep ((below_new w3 _).trans (hb4.mono (by simp))) (Row.block_lt (H9.out.keep hb3 H9.out.block_lt)))) | (go_at_call 52; refine (HRp.out _ _ _ _ _ HX4.out.2 HR4.out.sla (row_off HR4.out fun k q => Nat.lt_of_lt_of_le (HFt.out k q) (Nat.le_trans HX3.out.2.size (by simp)))).mono ?_; rintro e w5 ⟨rfl, fs5, h5, m5⟩))
          go_ret
          rw [HP.out]
          exact ⟨rfl, fs5, h5.upto (by omega), m5.lift HX4.out.2⟩
        by_cases hNl : N < ll
        · obtain ⟨q, hq⟩ : ∃ q, (pRepl (l.take N) z p).1 = q := ⟨_, rfl⟩
          have h21 : ¬ (2048 ≤ (ll : Int)) := by omega
          have h22 : (N : Int) < (ll : Int) := by omega
          by_cases hq0 : q = 0
          · have HP : Hid (pSave ⟨g, a, n, t⟩ z p = pAdd mN (frameM (⟨g, a, n, t⟩ : Sta).enc) z (pRepl (l.take N) z p).2) := by unfold Hid; rw [HPs.out, if_neg hgn, if_neg h20, if_pos hNl, if_pos (hq.trans hq0)]
            subst hq0
            clear hgn hg3 HPs
            go_enter Tryz.func22, Tryz.ntmps22
            go_wp2_with (first | (go_at_call 8; refine (HEn.out _ (below_new _ _)).mono ?_; rintro e w1 ⟨A7, c7, rfl, HR7, hb1⟩; have HX1 := hid (box_keep hb1)) | (go_at_call 30; refine (HD.out _ HX1.out.2).mono ?_; rintro e w2 ⟨A9, c9, o, rfl, H9, hc9, hb2⟩; have HX2 := hid (box_go HX1.out hb2)) | (go_at_call 13; refine (HR.out _ _ H9.out.sla).mono ?_; rintro e w3 ⟨A3, m3, c3, rfl, hb3⟩; have HX3 := hid (box_go HX2.out hb3); have z0 : ∀ o, (w3.alloc o).cell? ⟨w.heap.size, 0, Option.none⟩ = some (.int .i64 g) := fun o => (HX3.out.1.keep (below_new _ _) HX3.out.1.lt).cell 0) | (go_at_call 51; refine (HFr.out _ _ _ ((HR7.out.sla.below (hb2.trans (hb3.mono hb2.size))).below (below_new _ _))).mono ?_; rintro e w4 ⟨A4, c4, rfl, HR4, hb4⟩; have HX4 := hid (box_go HX3.out ((below_new _ _).trans (hb4.mono (by simp)))); have H94 := hid ((H9.out.keep hb3 H9.out.block_lt).keep ((below_new w3 _).trans (hb4.mono (by simp))) (Row.block_lt (H9.out.keep hb3 H9.out.block_lt)))) | (go_at_call 52; refine (HRp.out _ _ _ _ _ HX4.out.2 (slA_take9 H94.out.sla HLL.out N hN) (fun k q => row_off H94.out (fun k q => Nat.lt_of_lt_of_le (HFt.out k q) HX1.out.2.size) k (own_len q))).mono ?_; rintro e w5 ⟨rfl, fs5, h5, m5⟩; have HM5 := hid (And.intro h5 m5); rw [hq]) | (go_at_call 53; refine (HAd.out _ _ _ _ _ _ _ _ HM5.out.1 hi2 (HR4.out.sla.mv HM5.out.2 (row_off HR4.out fun k q => Nat.lt_of_lt_of_le (HFt.out k q) (Nat.le_trans HX3.out.2.size (by simp))))).mono ?_; rintro e w6 ⟨rfl, fs6, h6, m6⟩))
            go_ret
            rw [HP.out]
            exact ⟨rfl, fs6, h6, (HM5.out.2.trans m6).lift HX4.out.2⟩
          · have HP : Hid (pSave ⟨g, a, n, t⟩ z p = pRepl (l.take N) z p) := by unfold Hid; rw [HPs.out, if_neg hgn, if_neg h20, if_pos hNl, if_neg (fun e => hq0 (hq.symm.trans e))]
            have hqb : (q != 0) = true := by simpa using hq0
            clear hgn hg3 HPs HAd hq0
            go_enter Tryz.func22, Tryz.ntmps22
            go_wp2_with (first | (go_at_call 8; refine (HEn.out _ (below_new _ _)).mono ?_; rintro e w1 ⟨A7, c7, rfl, HR7, hb1⟩; have HX1 := hid (box_keep hb1)) | (go_at_call 30; refine (HD.out _ HX1.out.2).mono ?_; rintro e w2 ⟨A9, c9, o, rfl, H9, hc9, hb2⟩; have HX2 := hid (box_go HX1.out hb2)) | (go_at_call 13; refine (HR.out _ _ H9.out.sla).mono ?_; rintro e w3 ⟨A3, m3, c3, rfl, hb3⟩; have HX3 := hid (box_go HX2.out hb3); have z0 : ∀ o, (w3.alloc o).cell? ⟨w.heap.size, 0, Option.none⟩ = some (.int .i64 g) := fun o => (HX3.out.1.keep (below_new _ _) HX3.out.1.lt).cell 0) | (go_at_call 51; refine (HFr.out _ _ _ ((HR7.out.sla.below (hb2.trans (hb3.mono hb2.size))).below (below_new _ _))).mono ?_; rintro e w4 ⟨A4, c4, rfl, HR4, hb4⟩; have HX4 := hid (box_go HX3.out ((below_new _ _).trans (hb4.mono (by simp)))); have H94 := hid ((H9.out.keep hb3 H9.out.block_lt).keep ((below_new w3 _).trans (hb4.mono (by simp))) (Row.block_lt (H9.out.keep hb3 H9.out.block_lt)))) | (go_at_call 52; refine (HRp.out _ _ _ _ _ HX4.out.2 (slA_take9 H94.out.sla HLL.out N hN) (fun k q => row_off H94.out (fun k q => Nat.lt_of_lt_of_le (HFt.out k q) HX1.out.2.size) k (own_len q))).mono ?_; rintro e w5 ⟨rfl, fs5, h5, m5⟩; have HM5 := hid (And.intro h5 m5); rw [hq]))
            go_ret
            rw [HP.out, hq]
            exact ⟨rfl, fs5, HM5.out.1.upto (by omega), HM5.out.2.lift HX4.out.2⟩
        · have HP : Hid (pSave ⟨g, a, n, t⟩ z p = pAdd mN (frameM (⟨g, a, n, t⟩ : Sta).enc) z p) := by unfold Hid; rw [HPs.out, if_neg hgn, if_neg h20, if_neg hNl]
          have h21 : ¬ (2048 ≤ (ll : Int)) := by omega
          have h22 : ¬ ((N : Int) < (ll : Int)) := by omega
          clear hgn hg3 HPs HRp
          go_enter Tryz.func22, Tryz.ntmps22
          go_wp2_with (first | (go_at_call 8; refine (HEn.out _ (below_new _ _)).mono ?_; rintro e w1 ⟨A7, c7, rfl, HR7, hb1⟩; have HX1 := hid (box_keep hb1)) | (go_at_call 30; refine (HD.out _ HX1.out.2).mono ?_; rintro e w2 ⟨A9, c9, o, rfl, H9, hc9, hb2⟩; have HX2 := hid (box_go HX1.out hb2)) | (go_at_call 13; refine (HR.out _ _ H9.out.sla).mono ?_; rintro e w3 ⟨A3, m3, c3, rfl, hb3⟩; have HX3 := hid (box_go HX2.out hb3); have z0 : ∀ o, (w3.alloc o).cell? ⟨w.heap.size, 0, Option.none⟩ = some (.int .i64 g) := fun o => (HX3.out.1.keep (below_new _ _) HX3.out.1.lt).cell 0) | (go_at_call 51; refine (HFr.out _ _ _ ((HR7.out.sla.below (hb2.trans (hb3.mono hb2.size))).below (below_new _ _))).mono ?_; rintro e w4 ⟨A4, c4, rfl, HR4, hb4⟩; have HX4 := hid (box_go HX3.out ((below_new _ _).trans (hb4.mono (by simp)))); have H94 := hid ((H9.out.keep hb3 H9.out.block_lt).keep ((below_new w3 _).trans (hb4.mono (by simp))) (Row.block_lt (H9.out.keep hb3 H9.out.block_lt)))) | (go_at_call 53; refine (HAd.out _ _ _ _ _ _ _ _ (HSd.out.below HX4.out.2) hi3 HR4.out.sla).mono ?_; rintro e w6 ⟨rfl, fs6, h6, m6⟩))
          go_ret
          rw [HP.out]
          exact ⟨rfl, fs6, h6.upto (by omega), m6.lift HX4.out.2⟩
end Go.Proofs.YtofkfafdodhmdaaGreatDoor

/- Saving in a disk that has no other file: what the manifest holds. Conditions: none. -/
namespace Go.Proofs.YtofkfafdodhmdaaGreatDoor
open Go.RowKit

/-- States, each with a Gen one above that of the one ahead of it. -/
def ChainS : Sta → List Sta → Prop
  | _, [] => True
  | x, s :: t => s.right = true ∧ s.g = x.g + 1 ∧ ChainS s t
def Chain : List Sta → Prop
  | [] => True
  | s :: t => s.right = true ∧ ChainS s t
def bodies (ss : List Sta) : List (List UInt8) := ss.map Sta.enc
theorem bodies_len {ss : List Sta} (h : ∀ s ∈ ss, s.right = true) : ∀ b ∈ bodies ss, b.length ≤ 65536 := fun b hb => by
  obtain ⟨s, hs, rfl⟩ := List.mem_map.1 hb
  have := enc_len ((Sta.right_iff _).1 (h s hs))
  omega
theorem chainS_right : ∀ {x : Sta} {ss : List Sta}, ChainS x ss → ∀ s ∈ ss, s.right = true
  | _, [], _, s, h => by cases h
  | x, y :: t, h, s, hs => by
    rcases List.mem_cons.1 hs with e | e
    · rw [e]; exact h.1
    · exact chainS_right h.2.2 s e
theorem chain_right {ss : List Sta} (h : Chain ss) : ∀ s ∈ ss, s.right = true := by
  match ss, h with
  | [], _ => exact fun s hs => by cases hs
  | x :: t, h =>
    intro s hs
    rcases List.mem_cons.1 hs with e | e
    · rw [e]; exact h.1
    · exact chainS_right h.2 s e
theorem fold_chainS : ∀ (x : Sta) (ss : List Sta), ChainS x ss → foldS false x (bodies ss) = some (ss.getLastD x)
  | x, [], _ => rfl
  | x, y :: t, h => by
    show foldS false x (y.enc :: bodies t) = _
    rw [foldS_cons, dec_enc h.1]
    show (if false = true ∨ y.g = x.g + 1 then foldS false y (bodies t) else none) = _
    rw [if_pos (.inr h.2.1), fold_chainS y t h.2.2]
    cases t <;> rfl
theorem fold_chain (ss : List Sta) (h : Chain ss) : foldS true sta0 (bodies ss) = some (ss.getLastD sta0) := by
  match ss, h with
  | [], _ => rfl
  | x :: t, h =>
    show foldS true sta0 (x.enc :: bodies t) = _
    rw [foldS_cons, dec_enc h.1]
    show (if true = true ∨ x.g = sta0.g + 1 then foldS false x (bodies t) else none) = _
    rw [if_pos (.inl rfl), fold_chainS x t h.2]
    cases t <;> rfl
/-- Whole frames, and what stands behind them. -/
theorem readS_frames (ss : List Sta) (h : Chain ss) (r : List UInt8) (hr : nextM r = .torn) : readS (framesM (bodies ss) ++ r) = some (ss.getLastD sta0, (framesM (bodies ss)).length) := by
  have e := allF_frames (bodies ss) (bodies_len (chain_right h)) r
  have e2 : (allF r).1 = [] ∧ (allF r).2.1 = 0 ∧ (allF r).2.2 ≠ 2 := by
    by_cases q : r = []
    · rw [q, allF_nil]; exact ⟨rfl, rfl, by decide⟩
    · rw [allF_torn hr q]; exact ⟨rfl, rfl, by decide⟩
  unfold readS
  rw [e]
  show (if (allF r).2.2 = 2 then none else (foldS true sta0 (bodies ss ++ (allF r).1)).map fun s => (s, (framesM (bodies ss)).length + (allF r).2.1)) = _
  rw [if_neg e2.2.2, e2.1, e2.2.1, List.append_nil, fold_chain ss h]
  rfl
theorem readS_whole (ss : List Sta) (h : Chain ss) : readS (framesM (bodies ss)) = some (ss.getLastD sta0, (framesM (bodies ss)).length) := by
  have := readS_frames ss h [] next_nil
  rwa [List.append_nil] at this
theorem chainS_snoc : ∀ {x : Sta} {ss : List Sta} {s : Sta}, ChainS x ss → s.right = true → s.g = (ss.getLastD x).g + 1 → ChainS x (ss ++ [s])
  | x, [], s, _, h1, h2 => ⟨h1, h2, trivial⟩
  | x, y :: t, s, h, h1, h2 => ⟨h.1, h.2.1, chainS_snoc h.2.2 h1 (by cases t <;> exact h2)⟩
theorem chain_snoc {ss : List Sta} {s : Sta} (h : Chain ss) (h1 : s.right = true) (h2 : ss ≠ [] → s.g = (ss.getLastD sta0).g + 1) : Chain (ss ++ [s]) := by
  match ss, h with
  | [], _ => exact ⟨h1, trivial⟩
  | y :: t, h => exact ⟨h.1, chainS_snoc h.2 h1 (by have := h2 (by simp); cases t <;> exact this)⟩

/-- The disk has the manifest alone, or nothing; all of it lasts. -/
def OnlyM (p : PV) (ss : List Sta) : Prop := Chain ss ∧ ((p.1 = [] ∧ ss = []) ∨ (p.1 = [⟨mN, framesM (bodies ss), (framesM (bodies ss)).length, [], true⟩] ∧ ss ≠ []))
theorem onlyM_rd {p : PV} {ss : List Sta} (h : OnlyM p ss) : rdM p = framesM (bodies ss) := by
  unfold rdM
  rcases h.2 with ⟨e, e2⟩ | ⟨e, _⟩
  · rw [e, e2]; rfl
  · rw [e]; rfl
theorem onlyM_size {p : PV} {ss : List Sta} (h : OnlyM p ss) : sizeV p.1 = (framesM (bodies ss)).length := by
  rcases h.2 with ⟨e, e2⟩ | ⟨e, _⟩
  · rw [e, e2]; rfl
  · rw [e]; exact Nat.add_zero _
theorem onlyM_loose {p : PV} {ss : List Sta} (h : OnlyM p ss) : looseV p.1 = 0 := by
  rcases h.2 with ⟨e, _⟩ | ⟨e, _⟩
  · rw [e]; rfl
  · rw [e]
    show ((framesM (bodies ss)).length - (framesM (bodies ss)).length) + 0 = 0
    omega
theorem framesM_one (b : List UInt8) : framesM [b] = frameM b := List.append_nil _
theorem add_get (x : ByteArray) (b : List UInt8) (u : Nat) (f : Fv) (h : f.n = x) : (f.add b u).n = x := by rw [add_n, h]
theorem pAdd_new (x : ByteArray) (hx : rightB x = true) (b : List UInt8) (z : Int) (p : PV) (hp : p.1 = []) (hz : (b.length : Int) ≤ z) : pAdd x b z p = (0, ([⟨x, b, b.length, [], true⟩], p.2 + b.length)) := by
  have e1 : pWrite x b z p = (0, ([(newV x).add b p.2], p.2 + b.length)) := by
    unfold pWrite
    rw [if_pos hx, hp, if_pos (by show ((0 : Nat) : Int) + (b.length : Int) ≤ z; omega)]
    rfl
  unfold pAdd
  rw [e1, if_pos rfl]
  unfold pSync
  have e2 : ((newV x).add b p.2).n = x := add_get x b p.2 _ rfl
  have e3 : getV x [(newV x).add b p.2] = some ((newV x).add b p.2) := by
    unfold getV
    rw [List.find?_cons, e2, decide_eq_true rfl]
  show (match getV x [(newV x).add b p.2] with
    | some _ => ((0 : Int), (updV x Fv.sync [(newV x).add b p.2], p.2 + b.length))
    | none => (12, ([(newV x).add b p.2], p.2 + b.length))) = _
  rw [e3]
  show ((0 : Int), (updV x Fv.sync [(newV x).add b p.2], p.2 + b.length)) = _
  unfold updV
  rw [List.map_cons, if_pos e2]
  have e4 : ((newV x).add b p.2).sync = ⟨x, b, b.length, [], true⟩ := by
    unfold Fv.sync
    rw [e2, add_d]
    rfl
  rw [e4]
  rfl
theorem pAdd_more (x : ByteArray) (hx : rightB x = true) (b : List UInt8) (z : Int) (p : PV) (d : List UInt8) (m : Nat) (l : List (Nat × Nat)) (hh : Bool) (hp : p.1 = [⟨x, d, m, l, hh⟩]) (hz : (d.length : Int) + (b.length : Int) ≤ z) : pAdd x b z p = (0, ([⟨x, d ++ b, (d ++ b).length, [], true⟩], p.2 + b.length)) := by
  have eg : getV x [⟨x, d, m, l, hh⟩] = some ⟨x, d, m, l, hh⟩ := by
    unfold getV
    rw [List.find?_cons, decide_eq_true rfl]
  have e1 : pWrite x b z p = (0, ([(⟨x, d, m, l, hh⟩ : Fv).add b p.2], p.2 + b.length)) := by
    unfold pWrite
    rw [if_pos hx, hp, if_pos (by show ((d.length + 0 : Nat) : Int) + (b.length : Int) ≤ z; omega)]
    unfold wrV
    rw [eg]
    show ((0 : Int), (updV x (Fv.add b p.2) [⟨x, d, m, l, hh⟩], p.2 + b.length)) = _
    unfold updV
    rw [List.map_cons, if_pos rfl]
    rfl
  unfold pAdd
  rw [e1, if_pos rfl]
  unfold pSync
  have e2 : ((⟨x, d, m, l, hh⟩ : Fv).add b p.2).n = x := add_get x b p.2 _ rfl
  have e3 : getV x [(⟨x, d, m, l, hh⟩ : Fv).add b p.2] = some ((⟨x, d, m, l, hh⟩ : Fv).add b p.2) := by
    unfold getV
    rw [List.find?_cons, e2, decide_eq_true rfl]
  show (match getV x [(⟨x, d, m, l, hh⟩ : Fv).add b p.2] with
    | some _ => ((0 : Int), (updV x Fv.sync [(⟨x, d, m, l, hh⟩ : Fv).add b p.2], p.2 + b.length))
    | none => (12, ([(⟨x, d, m, l, hh⟩ : Fv).add b p.2], p.2 + b.length))) = _
  rw [e3]
  show ((0 : Int), (updV x Fv.sync [(⟨x, d, m, l, hh⟩ : Fv).add b p.2], p.2 + b.length)) = _
  unfold updV
  rw [List.map_cons, if_pos e2]
  have e4 : ((⟨x, d, m, l, hh⟩ : Fv).add b p.2).sync = ⟨x, d ++ b, (d ++ b).length, [], true⟩ := by
    unfold Fv.sync
    rw [e2, add_d]
  rw [e4]
  rfl
theorem mN_right : rightB mN = true := by kernel_rfl
theorem mT_right : rightB mT = true := by kernel_rfl
theorem mTN : bef mT mN = false := by kernel_rfl
theorem mT_ne : mT ≠ mN := by decide
theorem pRepl_one (b : List UInt8) (z : Int) (p : PV) (d : List UInt8) (m : Nat) (l : List (Nat × Nat)) (hh : Bool) (hp : p.1 = [⟨mN, d, m, l, hh⟩]) (hz : (d.length : Int) + (b.length : Int) ≤ z) : pRepl b z p = (0, ([⟨mN, b, b.length, [], true⟩], p.2 + b.length)) := by
  have g0 : getV mT [⟨mN, d, m, l, hh⟩] = none := rfl
  have e0 : (pRem mT p).2 = p := by
    unfold pRem
    rw [hp, g0]
  have e1 : pWrite mT b z p = (0, ([⟨mN, d, m, l, hh⟩, (newV mT).add b p.2], p.2 + b.length)) := by
    unfold pWrite
    rw [if_pos mT_right, hp, if_pos (by show ((d.length + 0 : Nat) : Int) + (b.length : Int) ≤ z; omega)]
    unfold wrV
    rw [g0]
    show ((0 : Int), (insV ((newV mT).add b p.2) [⟨mN, d, m, l, hh⟩], p.2 + b.length)) = _
    unfold insV
    rw [add_get mT b p.2 _ rfl, if_neg (by rw [mTN]; decide)]
    rfl
  have e2 : ((newV mT).add b p.2).n = mT := add_get mT b p.2 _ rfl
  have e4 : ((newV mT).add b p.2).sync = ⟨mT, b, b.length, [], true⟩ := by
    unfold Fv.sync
    rw [e2, add_d]
    rfl
  have hd : decide (mN = mT) = false := by decide
  have e3 : pAdd mT b z p = (0, ([⟨mN, d, m, l, hh⟩, ⟨mT, b, b.length, [], true⟩], p.2 + b.length)) := by
    unfold pAdd
    rw [e1, if_pos rfl]
    unfold pSync
    have g1 : getV mT [⟨mN, d, m, l, hh⟩, (newV mT).add b p.2] = some ((newV mT).add b p.2) := by
      unfold getV
      rw [List.find?_cons, List.find?_cons, e2, decide_eq_true rfl]
      rfl
    show (match getV mT [⟨mN, d, m, l, hh⟩, (newV mT).add b p.2] with
      | some _ => ((0 : Int), (updV mT Fv.sync [⟨mN, d, m, l, hh⟩, (newV mT).add b p.2], p.2 + b.length))
      | none => (12, ([⟨mN, d, m, l, hh⟩, (newV mT).add b p.2], p.2 + b.length))) = _
    rw [g1]
    show ((0 : Int), (updV mT Fv.sync [⟨mN, d, m, l, hh⟩, (newV mT).add b p.2], p.2 + b.length)) = _
    unfold updV
    rw [List.map_cons, List.map_cons, if_pos e2, if_neg (by intro e; exact mT_ne e.symm), e4]
    rfl
  unfold pRepl
  rw [e0, e3, if_pos rfl]
  rfl

/-- A state is saved where it fits. -/
theorem pSave_yes {p : PV} {ss : List Sta} (h : OnlyM p ss) (s : Sta) (hs : s.right = true) (hg : ss ≠ [] → s.g = (ss.getLastD sta0).g + 1) (z : Int) (hz : ((framesM (bodies ss)).length : Int) + ((frameM s.enc).length : Int) ≤ z) :
    ∃ p' ss', pSave s z p = (0, p') ∧ OnlyM p' ss' ∧ ss' ≠ [] ∧ ss'.getLastD sta0 = s ∧ (framesM (bodies ss')).length ≤ max 2047 0 + (frameM s.enc).length ∧ (ss' = ss ++ [s] ∨ ss' = [s]) := by
  have hrd := onlyM_rd h
  have hrs : readS (rdM p) = some (ss.getLastD sta0, (framesM (bodies ss)).length) := by rw [hrd]; exact readS_whole ss h.1
  have hok : ¬ (0 < (framesM (bodies ss)).length ∧ s.g ≠ (ss.getLastD sta0).g + 1) := fun ⟨h1, h2⟩ => h2 (hg fun e => by rw [e] at h1; exact absurd h1 (by decide))
  have hch := chain_snoc h.1 hs hg
  have hfr : framesM (bodies (ss ++ [s])) = framesM (bodies ss) ++ frameM s.enc := by
    unfold bodies
    rw [List.map_append, frames_app]
    show _ ++ framesM [s.enc] = _
    rw [framesM_one]
  unfold pSave
  rw [if_pos hs, hrs]
  show ∃ p' ss', (if 0 < (framesM (bodies ss)).length ∧ s.g ≠ (ss.getLastD sta0).g + 1 then ((10 : Int), p) else if 2048 ≤ (rdM p).length then pRepl (frameM s.enc) z p else if (framesM (bodies ss)).length < (rdM p).length then _ else pAdd mN (frameM s.enc) z p) = (0, p') ∧ _
  rw [if_neg hok, hrd]
  by_cases h2 : 2048 ≤ (framesM (bodies ss)).length
  · rw [if_pos h2]
    rcases h.2 with ⟨_, e⟩ | ⟨e, _⟩
    · rw [e] at h2; exact absurd h2 (by decide)
    · refine ⟨_, [s], pRepl_one _ z p _ _ _ _ e hz, ⟨⟨hs, trivial⟩, .inr ⟨?_, by simp⟩⟩, by simp, rfl, ?_, .inr rfl⟩
      · show _ = [(⟨mN, framesM [s.enc], (framesM [s.enc]).length, [], true⟩ : Fv)]
        rw [framesM_one]
      · show (framesM [s.enc]).length ≤ _
        rw [framesM_one]
        omega
  · rw [if_neg h2, if_neg (Nat.lt_irrefl _)]
    refine ⟨([⟨mN, framesM (bodies (ss ++ [s])), (framesM (bodies (ss ++ [s]))).length, [], true⟩], p.2 + (frameM s.enc).length), ss ++ [s], ?_, ⟨hch, .inr ⟨rfl, by simp⟩⟩, by simp, by simp, ?_, .inl rfl⟩
    · rcases h.2 with ⟨e, e2⟩ | ⟨e, _⟩
      · rw [pAdd_new mN mN_right _ z p e (by rw [e2] at hz; have : ((framesM (bodies [])).length : Int) = 0 := rfl; omega), e2]
        show _ = ((0 : Int), ([(⟨mN, framesM [s.enc], (framesM [s.enc]).length, [], true⟩ : Fv)], _))
        rw [framesM_one]
      · rw [pAdd_more mN mN_right _ z p _ _ _ _ e hz, hfr]
    · rw [hfr, List.length_append]
      omega
theorem pSave_bad (s : Sta) (hs : s.right = false) (z : Int) (p : PV) : pSave s z p = (10, p) := by unfold pSave; rw [if_neg (by rw [hs]; decide)]
theorem pSave_gen {p : PV} {ss : List Sta} (h : OnlyM p ss) (s : Sta) (hg : ss ≠ []) (hn : s.g ≠ (ss.getLastD sta0).g + 1) (z : Int) : pSave s z p = (10, p) := by
  cases hs : s.right with
  | false => exact pSave_bad s hs z p
  | true =>
    have hrd := onlyM_rd h
    have hrs : readS (rdM p) = some (ss.getLastD sta0, (framesM (bodies ss)).length) := by rw [hrd]; exact readS_whole ss h.1
    unfold pSave
    rw [if_pos hs, hrs]
    refine if_pos ⟨?_, hn⟩
    match ss, hg with
    | x :: t, _ =>
      show 0 < (frameM x.enc ++ framesM (bodies t)).length
      rw [List.length_append, frame_len]
      omega
end Go.Proofs.YtofkfafdodhmdaaGreatDoor

/- joistlaw11.alive: a state that is saved twice. Conditions: none. -/
namespace Go.Proofs.YtofkfafdodhmdaaGreatDoor
open Go.RowKit

/-- A disk of the call's own, and what lay is as it was. -/
structure Al (w W : World) (db mb : Nat) (z : Int) (j : Nat) (fs : List Fl) (p : PV) : Prop where
  sd : Sd W w.heap.size db mb z j fs p
  be : Below w.heap.size w W
theorem Al.go {w W W' : World} {db mb j j' : Nat} {z : Int} {fs fs' : List Fl} {p p' : PV} (h : Al w W db mb z j fs p) (hs : Sd W' w.heap.size db mb z j' fs' p') (hm : Mv W W' db mb fs fs') : Al w W' db mb z j' fs' p' :=
  ⟨hs, h.be.trans (hm.ch.below (fun _ q => (h.sd.lt q).1) h.be.size)⟩
theorem Al.below {w W W' : World} {db mb j : Nat} {z : Int} {fs : List Fl} {p : PV} (h : Al w W db mb z j fs p) (hb : Below W.heap.size W W') : Al w W' db mb z j fs p := h.go (h.sd.below hb) (Mv.of_below hb)
theorem Al.new {w : World} (z : Int) (h0 : 0 ≤ z) (h1 : z ≤ 16777216) : Calls Tryz.prog 20 #[.int .i64 z] w fun e w' => e = .returned (.tuple #[.pointer (some ⟨w.heap.size + 1, 0, none⟩), .int .i64 0]) ∧ Hid (Al w w' (w.heap.size + 1) w.heap.size z 0 [] ([], 0)) := by
  refine (new_yes z h0 h1 w).mono ?_
  rintro e w' ⟨rfl, h2, h3⟩
  exact ⟨rfl, ⟨rfl, h2, good_nil z h0⟩, h3⟩
/-- What Save does to it. -/
theorem Al.save {w W : World} {db mb j : Nat} {z : Int} {fs : List Fl} {p : PV} (h : Al w W db mb z j fs p) (hj : j ≤ 990) (hz : 0 ≤ z ∧ z ≤ 16777216) (s : Sta) (v : Value) (hv : SlI W v s.t) (hl : (rdM p).length ≤ 1000000) {q : Int} {p' : PV} (hp : pSave s z p = (q, p')) :
    Calls Tryz.prog 22 #[.pointer (some ⟨db, 0, none⟩), .string mN, staV s.g s.a s.n v] W fun e w' => ∃ fs', e = .returned (.int .i64 q) ∧ Hid (Al w w' db mb z (j + 6) fs' p') := by
  refine (save9_any h.sd hj hz s v hv hl).mono ?_
  rintro e w' ⟨rfl, fs', h1, h2⟩
  rw [hp] at h1 ⊢
  exact ⟨fs', rfl, h.go h1 h2⟩
theorem crash_only {fs : List Fl} {ss : List Sta} {u : Nat} (h : OnlyM (viewF fs, u) ss) {l : List Pc} (hl : l.Perm (allP fs)) (K : Int) : viewF (((fs.map (mF l K)).filter keepB).map cutF) = viewF fs := by
  rcases h.2 with ⟨e, _⟩ | ⟨e, _⟩
  · match fs, e with
    | [], _ => rfl
  · have hlen : fs.length = 1 := by
      have := congrArg List.length e
      rwa [show (viewF fs).length = fs.length from List.length_map _] at this
    obtain ⟨f, rfl⟩ := List.length_eq_one_iff.1 hlen
    have e2 : f.v = ⟨mN, framesM (bodies ss), (framesM (bodies ss)).length, [], true⟩ := List.cons.inj e |>.1
    have el : f.l = [] := congrArg Fv.l e2
    have eh : f.h = true := congrArg Fv.h e2
    have ed : f.d = framesM (bodies ss) := congrArg Fv.d e2
    have em : f.m = (framesM (bodies ss)).length := congrArg Fv.m e2
    have ea : allP [f] = [] := by
      unfold allP pcsF
      rw [List.flatMap_cons, el]
      rfl
    rw [ea] at hl
    have : l = [] := List.perm_nil.1 hl
    subst this
    rw [List.map_cons, mF_nil, List.map_nil, List.filter_cons, if_pos (by unfold keepB; rw [eh, Bool.not_true, Bool.and_false]; rfl)]
    show [(cutF f).v] = [f.v]
    have : (cutF f).v = f.v := by
      unfold cutF Fl.v
      rw [em, ed, List.take_length, el]
    rw [this]
theorem Al.crash {w W : World} {db mb j : Nat} {z : Int} {fs : List Fl} {p : PV} {ss : List Sta} (h : Al w W db mb z j fs p) (hj : j ≤ 1000) (hz : 0 ≤ z ∧ z ≤ 16777216) (hp : OnlyM p ss) (K : Int) (h1 : -9223372036854775808 ≤ K) (h2 : K < 9223372036854775808) :
    Calls Tryz.prog 26 #[.pointer (some ⟨db, 0, none⟩), .int .i64 K] W fun e w' => ∃ fs', e = .returned (.tuple #[]) ∧ Hid (Al w w' db mb z (j + 1) fs' p) := by
  obtain ⟨vs, u⟩ := p
  obtain rfl : viewF fs = vs := h.sd.v
  refine (crash_do ⟨4, ⟨#[]⟩, ⟨#[]⟩, .int .i64 0, [], K⟩ ⟨by show (0 : Nat) ≤ _; omega, by show (0 : Nat) ≤ _; omega, h1, h2⟩ rfl h.sd.dk h.sd.good hj hz).mono ?_
  rintro e w' ⟨rfl, fs', u', hE⟩
  refine ⟨fs', rfl, ?_⟩
  rcases hE.did with ⟨h0, _⟩ | ⟨h0, _⟩ | ⟨h0, _⟩ | ⟨h0, _⟩ | ⟨h0, _⟩ | ⟨_, _, eu, l, h3, h4, e5⟩ | ⟨h0, _⟩
  rotate_left 5
  · have hv : viewF fs' = viewF fs := by rw [e5]; exact crash_only hp h3 K
    have hd := hE.dk
    have hg := hE.good
    rw [eu] at hd hg
    rw [hv] at hg
    exact h.go ⟨hv, hd, hg⟩ ⟨hE.ch, hE.sub⟩
  all_goals (dsimp only at h0; omega)

theorem enc_small : ∀ l : List Int, (∀ x ∈ l, 0 ≤ x ∧ x < 128) → (numsW l).length = l.length
  | [], _ => rfl
  | x :: t, h => by
    have hx := h x List.mem_cons_self
    show (numW x.toNat ++ numsW t).length = _
    rw [List.length_append, numW_small (by omega), enc_small t fun y hy => h y (List.mem_cons_of_mem _ hy), List.length_cons]
    exact Nat.add_comm _ _
theorem frame_small (b : List UInt8) (h : b.length < 128) : (frameM b).length = b.length + 5 := by rw [frame_len, numW_small h, List.length_singleton]; omega
abbrev s1A : Sta := ⟨1, 2, 3, [2, 1]⟩
abbrev s2A : Sta := ⟨2, 5, 4, [3]⟩
abbrev s3A : Sta := ⟨2, 5, 4, []⟩
theorem s1A_right : s1A.right = true := by decide
theorem s2A_right : s2A.right = true := by decide
theorem s1A_len : (frameM s1A.enc).length = 11 := by
  have : s1A.enc.length = 6 := enc_small s1A.nums (by decide)
  rw [frame_small _ (by omega), this]
theorem s2A_len : (frameM s2A.enc).length = 10 := by
  have : s2A.enc.length = 5 := enc_small s2A.nums (by decide)
  rw [frame_small _ (by omega), this]
theorem onlyM_nil (u : Nat) : OnlyM ([], u) [] := ⟨trivial, .inl ⟨rfl, rfl⟩⟩

set_option maxRecDepth 100000 in
set_option maxHeartbeats 8000000 in
theorem alive9_any (w : World) : Calls Tryz.prog 7 #[] w fun e w' => e = .returned (.bool true) ∧ Below w.heap.size w w' := by
  obtain ⟨p1, ss1, e1, o1, n1, l1, _, x1⟩ := pSave_yes (onlyM_nil 0) s1A s1A_right (fun h => absurd rfl h) 500 (by rw [s1A_len]; decide)
  have hs1 : ss1 = [s1A] := by rcases x1 with e | e <;> exact e
  subst hs1
  have hb1 : (framesM (bodies [s1A])).length = 11 := by show (framesM [s1A.enc]).length = 11; rw [framesM_one, s1A_len]
  obtain ⟨p2, ss2, e2, o2, n2, l2, _, x2⟩ := pSave_yes o1 s2A s2A_right (fun _ => rfl) 500 (by rw [s2A_len, hb1]; decide)
  have hb2 : (framesM (bodies ss2)).length ≤ 21 := by
    rcases x2 with e | e
    · rw [e]
      show (framesM (bodies [s1A] ++ [s2A.enc])).length ≤ 21
      rw [frames_app, List.length_append, hb1, framesM_one, s2A_len]
      omega
    · rw [e]
      show (framesM [s2A.enc]).length ≤ 21
      rw [framesM_one, s2A_len]
      omega
  have e3 := pSave_gen o2 s3A n2 (by rw [l2]; decide) 500
  have hrd : readS (rdM p2) = some (s2A, (framesM (bodies ss2)).length) := by rw [onlyM_rd o2, readS_whole ss2 o2.1, l2]
  have HN : Hid (Calls Tryz.prog 20 #[.int .i64 500] w fun e w' => e = .returned (.tuple #[.pointer (some ⟨w.heap.size + 1, 0, none⟩), .int .i64 0]) ∧ Hid (Al w w' (w.heap.size + 1) w.heap.size 500 0 [] ([], 0))) := Al.new 500 (by decide) (by decide)
  have HS1 : Hid (∀ W, Al w W (w.heap.size + 1) w.heap.size 500 0 [] ([], 0) → Calls Tryz.prog 22 #[.pointer (some ⟨w.heap.size + 1, 0, none⟩), .string mN, staV 1 2 3 (.slice (some ⟨W.heap.size, 0, none⟩) 2 2)] (W.alloc (.cells #[.int .i64 2, .int .i64 1] 3)) fun e w' => ∃ fs', e = .returned (.int .i64 0) ∧ Hid (Al w w' (w.heap.size + 1) w.heap.size 500 6 fs' p1)) := fun W hW =>
    (hW.below (below_new _ _)).save (by omega) (by decide) s1A _ (irow_new W W.heap.size (Nat.le_refl _) [2, 1] (by simp) _ rfl _ rfl).slI (by decide) e1
  have HS2 : Hid (∀ W fs, Al w W (w.heap.size + 1) w.heap.size 500 6 fs p1 → Calls Tryz.prog 22 #[.pointer (some ⟨w.heap.size + 1, 0, none⟩), .string mN, staV 2 5 4 (.slice (some ⟨W.heap.size, 0, none⟩) 1 1)] (W.alloc (.cells #[.int .i64 3] 3)) fun e w' => ∃ fs', e = .returned (.int .i64 0) ∧ Hid (Al w w' (w.heap.size + 1) w.heap.size 500 12 fs' p2)) := fun W fs hW =>
    (hW.below (below_new _ _)).save (by omega) (by decide) s2A _ (irow_new W W.heap.size (Nat.le_refl _) [3] (by simp) _ rfl _ rfl).slI (by rw [onlyM_rd o1, hb1]; decide) e2
  have HS3 : Hid (∀ W fs, Al w W (w.heap.size + 1) w.heap.size 500 12 fs p2 → Calls Tryz.prog 22 #[.pointer (some ⟨w.heap.size + 1, 0, none⟩), .string mN, staV 2 5 4 (.slice none 0 0)] W fun e w' => ∃ fs', e = .returned (.int .i64 10) ∧ Hid (Al w w' (w.heap.size + 1) w.heap.size 500 18 fs' p2)) := fun W fs hW =>
    hW.save (by omega) (by decide) s3A _ (slI_nil W) (by rw [onlyM_rd o2]; omega) e3
  have HC : Hid (∀ W fs, Al w W (w.heap.size + 1) w.heap.size 500 18 fs p2 → Calls Tryz.prog 26 #[.pointer (some ⟨w.heap.size + 1, 0, none⟩), .int .i64 0] W fun e w' => ∃ fs', e = .returned (.tuple #[]) ∧ Hid (Al w w' (w.heap.size + 1) w.heap.size 500 19 fs' p2)) := fun W fs hW =>
    hW.crash (by omega) (by decide) o2 0 (by decide) (by decide)
  have HL : Hid (∀ W fs, Al w W (w.heap.size + 1) w.heap.size 500 19 fs p2 → Calls Tryz.prog 28 #[.pointer (some ⟨w.heap.size + 1, 0, none⟩), .string mN] W fun e w' => ∃ A3 c3, e = .returned (.tuple #[staV 2 5 4 (.slice A3 1 c3), .int .i64 0]) ∧ Hid (Below w.heap.size w w')) := fun W fs hW => by
    refine (load9_any hW.sd (by rw [onlyM_rd o2]; omega)).mono ?_
    rintro e w' ⟨h1, h2⟩
    rw [hrd] at h1
    obtain ⟨v3, rfl, h3⟩ := h1
    obtain ⟨A3, c3, rfl, _⟩ := h3
    exact ⟨A3, c3, rfl, hW.be.trans (h2.mono hW.be.size)⟩
  clear o1 o2 e1 e2 e3 x1 x2 l1 l2 n1 n2 hrd hb1 hb2
  go_enter Tryz.func7, Tryz.ntmps7
  go_upto_region 5 with (first
    | (go_at_call 20; refine HN.out.mono ?_; rintro e w1 ⟨rfl, H1⟩)
    | (go_at_call 22; with_reducible refine (HS1.out w1 H1.out).mono ?_; rintro e w2 ⟨fs2, rfl, H2⟩))
  clear HN HS1
  go_upto_region 6 with (go_at_call 22; with_reducible refine (HS2.out w2 fs2 H2.out).mono ?_; rintro e w3 ⟨fs3, rfl, H3⟩)
  clear HS2
  go_upto_region 7 with (go_at_call 22; with_reducible refine (HS3.out w3 fs3 H3.out).mono ?_; rintro e w4 ⟨fs4, rfl, H4⟩)
  clear HS3
  go_wp2_with (first
    | (go_at_call 26; with_reducible refine (HC.out w4 fs4 H4.out).mono ?_; rintro e w5 ⟨fs5, rfl, H5⟩)
    | (go_at_call 28; with_reducible refine (HL.out w5 fs5 H5.out).mono ?_; rintro e w6 ⟨A3, c3, rfl, H6⟩))
  go_ret
  exact ⟨rfl, H6.out.trans ((below_new _ _).mono H6.out.size)⟩
end Go.Proofs.YtofkfafdodhmdaaGreatDoor
