/- The document's swap, Load. Conditions: the disk stands and is good behind at most 990 calls; it has the manifest and the file beside it alone, none too great. -/
import Derived.Test.YtofkfafdodhmdaaGreatDoorNT
import Derived.Test.YtofkfafdodhmdaaGreatDoorMfK
import Derived.Test.YtofkfafdodhmdaaGreatDoorMfTa
namespace Go.Proofs.YtofkfafdodhmdaaGreatDoor
open Go.RowKit

theorem not_mr {w w1 : World} {F F1 : Nat → Prop} {v : Value} {l : List UInt8} (h : SlA w v l) (hm : Mr w w1 F F1) (hv : ∀ g, v.ownBlock = some g → ¬ F g) : 0 < l.length → ∀ g, v.ownBlock = some g → ¬ F1 g := fun h0 g e r =>
  (hm.sub g r).elim (hv g e) fun q => (sla_lt h g e).elim (fun q2 => by omega) fun q2 => absurd q2 (Nat.not_lt.2 q)
section
variable {w : World} {B rb i : Nat} {z : Int} {F : Nat → Prop} {p : PV}
set_option maxRecDepth 100000 in
set_option maxHeartbeats 8000000 in
theorem rswap9 (h : Rd9 w B rb z i F p) (hi : i ≤ 990) (hz : 0 ≤ z ∧ z ≤ 16777216) (vb : Value) (b : List UInt8) (hb : SlA w vb b) (hv : ∀ g, vb.ownBlock = some g → ¬ F g) {a c : Nat} (hd : Bd p.1 a c) (ha : a ≤ 20000) (hc : c ≤ 20000) (hbl : b.length ≤ 20000) :
    Calls Tryz.prog 54 #[.pointer (some ⟨rb, 0, none⟩), .string mN, vb] w fun e w' => e = .returned (.int .i64 (pRepl b z p).1) ∧ ∃ F1, Rd9 w' B rb z (i + 4) F1 (pRepl b z p).2 ∧ Mr w w' F F1 := by
  obtain ⟨q0, hq0⟩ : ∃ q, (pRem mT p).1 = q := ⟨_, rfl⟩
  obtain ⟨q, hq⟩ : ∃ q, (pWrite mT b z (pRem mT p).2).1 = q := ⟨_, rfl⟩
  have g1 := good_pr (x := mT) h.good
  have g2 := good_pw (x := mT) (b := b) g1 hz.2
  have g3 := good_ps (x := mT) g2
  have s0 := hd.size h.good.ri
  have d1 := hd.rem
  have s1 := d1.size g1.ri
  have d2 := d1.pwT (b := b) (z := z) g1.ri
  have s2 := d2.size g2.ri
  have d3 := d2.ps mT
  have s3 := d3.size g3.ri
  have HR : Hid (Calls Tryz.prog 88 #[.pointer (some ⟨rb, 0, none⟩), .string mT] w fun e w' => ∃ F1, e = .returned (.int .i64 q0) ∧ Hid (Rd9 w' B rb z (i + 1) F1 (pRem mT p).2 ∧ Mr w w' F F1)) := by
    refine (rrem9 h (by omega) mT (by decide) (by omega)).mono ?_
    rintro e w' ⟨rfl, F1, h1, h2⟩
    exact ⟨F1, by rw [hq0], h1, h2⟩
  have HW : Hid (∀ w1 F1, Rd9 w1 B rb z (i + 1) F1 (pRem mT p).2 ∧ Mr w w1 F F1 → Calls Tryz.prog 25 #[.pointer (some ⟨rb, 0, none⟩), .string mT, vb] w1 fun e w' => ∃ F2, e = .returned (.int .i64 q) ∧ Hid (Rd9 w' B rb z (i + 2) F2 (pWrite mT b z (pRem mT p).2).2 ∧ Mr w w' F F2)) := fun w1 F1 h1 => by
    refine (rwrite9 h1.1 (by omega) hz mT (by decide) vb b (hb.mr h1.2 hv) (not_mr hb h1.2 hv) (by omega)).mono ?_
    rintro e w' ⟨rfl, F2, h2, h3⟩
    exact ⟨F2, by rw [hq], h2, h1.2.trans h3⟩
  have HS : Hid (∀ w1 F1, Rd9 w1 B rb z (i + 2) F1 (pWrite mT b z (pRem mT p).2).2 ∧ Mr w w1 F F1 → Calls Tryz.prog 55 #[.pointer (some ⟨rb, 0, none⟩), .string mT] w1 fun e w' => ∃ q2 F2, e = .returned (.int .i64 q2) ∧ Hid (Rd9 w' B rb z (i + 3) F2 (pSync mT (pWrite mT b z (pRem mT p).2).2).2 ∧ Mr w w' F F2)) := fun w1 F1 h1 => by
    refine (rsync9 h1.1 (by omega) mT (by decide) (by omega)).mono ?_
    rintro e w' ⟨rfl, F2, h2, h3⟩
    exact ⟨_, F2, rfl, h2, h1.2.trans h3⟩
  have HN : Hid (∀ w1 F1, Rd9 w1 B rb z (i + 3) F1 (pSync mT (pWrite mT b z (pRem mT p).2).2).2 ∧ Mr w w1 F F1 → Calls Tryz.prog 89 #[.pointer (some ⟨rb, 0, none⟩), .string mT, .string mN] w1 fun e w' => e = .returned (.int .i64 (pRen mT mN (pSync mT (pWrite mT b z (pRem mT p).2).2).2).1) ∧ ∃ F2, Rd9 w' B rb z (i + 4) F2 (pRen mT mN (pSync mT (pWrite mT b z (pRem mT p).2).2).2).2 ∧ Mr w w' F F2) := fun w1 F1 h1 => by
    refine (rren9 h1.1 (by omega) mT mN (by decide) (by decide) (by omega)).mono ?_
    rintro e w' ⟨rfl, F2, h2, h3⟩
    exact ⟨rfl, F2, h2, h1.2.trans h3⟩
  have hA := add_ans (x := mT) (b := b) (z := z) g1.ri
  have HP1 : Hid (q = 0 → pRepl b z p = pRen mT mN (pSync mT (pWrite mT b z (pRem mT p).2).2).2) := fun e => by
    unfold pRepl
    rw [if_pos (by rw [hA, hq, e])]
    unfold pAdd
    rw [if_pos (by rw [hq, e])]
  have HP2 : Hid (q ≠ 0 → pRepl b z p = pWrite mT b z (pRem mT p).2) := fun e => by
    unfold pRepl
    rw [if_neg (by rw [hA, hq]; exact e)]
    unfold pAdd
    rw [if_neg (by rw [hq]; exact e)]
  obtain ⟨A, cc, rfl, _⟩ := hb
  generalize b.length = n at HW ⊢
  clear h hi hz hv hq0 g1 g2 g3 s0 s1 s2 s3 d1 d2 d3 hA hd ha hc
  by_cases hz0 : q = 0
  · have HP := hid (HP1.out hz0)
    rw [HP.out]
    subst hz0
    clear hq HP HP1 HP2
    go_enter Tryz.func54, Tryz.ntmps54
    go_wp2_with (first
      | (go_at_call 88; refine HR.out.mono ?_; rintro e w1 ⟨F1, rfl, H1⟩)
      | (go_at_call 25; refine (HW.out _ _ H1.out).mono ?_; rintro e w2 ⟨F2, rfl, H2⟩)
      | (go_at_call 55; refine (HS.out _ _ H2.out).mono ?_; rintro e w3 ⟨q3, F3, rfl, H3⟩)
      | (go_at_call 89; refine (HN.out _ _ H3.out).mono ?_; rintro e w4 ⟨rfl, H4⟩))
    go_ret
    exact ⟨rfl, H4⟩
  · have HP := hid (HP2.out hz0)
    rw [HP.out, hq]
    have hb : (q != 0) = true := by simpa using hz0
    clear hq HP HP1 HP2 hz0
    go_enter Tryz.func54, Tryz.ntmps54
    go_wp2_with (first
      | (go_at_call 88; refine HR.out.mono ?_; rintro e w1 ⟨F1, rfl, H1⟩)
      | (go_at_call 25; refine (HW.out _ _ H1.out).mono ?_; rintro e w2 ⟨F2, rfl, H2⟩))
    go_ret
    exact ⟨rfl, F2, H2.out.1.upto (by omega), H2.out.2⟩
end

set_option maxRecDepth 100000 in
set_option maxHeartbeats 8000000 in
theorem rload9_any {w : World} {B rb i : Nat} {z : Int} {F : Nat → Prop} {p : PV} (h : Rd9 w B rb z i F p) (hi : i ≤ 1000) (hs : sizeV p.1 ≤ 90000) (hl : (rdM p).length ≤ 1000000) :
    Calls Tryz.prog 29 #[.pointer (some ⟨rb, 0, none⟩), .string mN] w (load9_anyEnd w (rdM p)) := by
  obtain ⟨l, el⟩ : ∃ l, rdM p = l := ⟨_, rfl⟩
  have HD : Hid (∀ W, Below w.heap.size w W → Calls Tryz.prog 31 #[.pointer (some ⟨rb, 0, none⟩), .string mN] W fun e w' => ∃ A9 m9 c9 o, e = .returned (.tuple #[.slice A9 m9 c9, .bool o]) ∧ Hid (SlA w' (.slice A9 m9 c9) l) ∧ Below W.heap.size W w') := fun W hW => by
    refine (rread9m (h.below hW) hi hs).mono ?_
    rintro e w' ⟨v, o, rfl, h1, h2⟩
    rw [el] at h1
    have h3 := h1.sla
    obtain ⟨A9, c9, rfl, _⟩ := id h3
    exact ⟨A9, _, c9, o, rfl, h3, h2⟩
  rw [el] at hl ⊢
  have HR : Hid (∀ W v, SlA W v l → Calls Tryz.prog 14 #[v] W (RdsEnd W l)) := fun W v hv => rread_any v l hl W hv
  clear h el hl hi hs
  cases hr : readS l with
  | none =>
    have HE : Hid (∀ e w', e = .returned (.tuple #[staV 0 0 0 (.slice Option.none 0 0), .int .i64 20]) → Below w.heap.size w w' → load9_anyEnd w l e w') := fun e w' h1 h2 => ⟨by rw [hr]; exact h1, h2⟩
    have HR : Hid (∀ W v, SlA W v l → Calls Tryz.prog 14 #[v] W fun e w' => e = .returned (.tuple #[staV 0 0 0 (.slice Option.none 0 0), .int .i64 0, .int .i64 20]) ∧ Below W.heap.size W w') := fun W v hv => by
      refine (HR.out W v hv).mono ?_
      rintro e w' ⟨h1, h2⟩
      rw [hr] at h1
      exact ⟨h1, h2⟩
    clear hr
    go_enter Tryz.func29, Tryz.ntmps29
    go_upto_region 3 with (first
      | (go_at_call 31; refine (HD.out _ (below_new _ _)).mono ?_; rintro e w1 ⟨A9, m9, c9, o, rfl, H9, hb1⟩)
      | (go_at_call 14; refine (HR.out _ _ H9.out).mono ?_; rintro e w2 ⟨rfl, hb2⟩))
    obtain ⟨b8, hb8⟩ : ∃ b8, w2.heap.size = b8 := ⟨_, rfl⟩
    refine wp_ltc (fun W => Hid (Blk W w.heap.size 24 #[.int .i64 0, .int .i64 0, .int .i64 0, .slice Option.none 0 0] ∧ Blk W b8 24 #[.int .i64 0, .int .i64 0, .int .i64 0, .slice Option.none 0 0] ∧ Below w.heap.size w W)) ?_ ?_
    · have e1 := below_new w2 (.cells #[.int .i64 0, .int .i64 0, .int .i64 0, .slice Option.none 0 0] 24)
      have e2 := (hb1.trans (hb2.mono hb1.size)).trans (e1.mono (Nat.le_trans hb1.size hb2.size))
      exact ⟨(Blk.new w _ _).keep e2 (by simp), by rw [← hb8]; exact Blk.new _ _ _, (below_new w _).trans (e2.mono (by simp))⟩
    rw [hb8]
    intro W HW
    clear hb1 hb2 hb8
    have q0 : W.cell? ⟨b8, 0, Option.none⟩ = some (.int .i64 0) := HW.out.2.1.cell 0
    have q1 : W.cell? ⟨b8, 1, Option.none⟩ = some (.int .i64 0) := HW.out.2.1.cell 1
    have q2 : W.cell? ⟨b8, 2, Option.none⟩ = some (.int .i64 0) := HW.out.2.1.cell 2
    have q3 : W.cell? ⟨b8, 3, Option.none⟩ = some (.slice Option.none 0 0) := HW.out.2.1.cell 3
    have r0 : W.cell? ⟨w.heap.size, 0, Option.none⟩ = some (.int .i64 0) := HW.out.1.cell 0
    have r1 : W.cell? ⟨w.heap.size, 1, Option.none⟩ = some (.int .i64 0) := HW.out.1.cell 1
    have r2 : W.cell? ⟨w.heap.size, 2, Option.none⟩ = some (.int .i64 0) := HW.out.1.cell 2
    have r3 : W.cell? ⟨w.heap.size, 3, Option.none⟩ = some (.slice Option.none 0 0) := HW.out.1.cell 3
    have rf : ∀ j, W.frozen? ⟨w.heap.size, j, Option.none⟩ = false := fun j => HW.out.1.free j
    go_wp2
    refine bodyPost_ret (v := .tuple #[staV 0 0 0 (.slice Option.none 0 0), .int .i64 20]) (by simp [results, Tryz.results29, go_sem, cell_set_eq9, r0, r1, r2, r3]) rfl ?_
    refine HE.out _ _ rfl ?_
    iterate 4 (refine Below.setCell ?_ (by simp) _)
    exact HW.out.2.2
  | some pr =>
    obtain ⟨⟨g, a, n, t⟩, N⟩ := pr
    have HE : Hid (∀ e w' v, e = .returned (.tuple #[staV g a n v, .int .i64 0]) → SlI w' v t → Below w.heap.size w w' → load9_anyEnd w l e w') := fun e w' v h1 h2 h3 => ⟨by rw [hr]; exact ⟨v, h1, h2⟩, h3⟩
    have HR : Hid (∀ W v, SlA W v l → Calls Tryz.prog 14 #[v] W fun e w' => ∃ A3 m3 c3, e = .returned (.tuple #[staV g a n (.slice A3 m3 c3), .int .i64 (N : Int), .int .i64 0]) ∧ Hid (SlI w' (.slice A3 m3 c3) t ∧ OwnN (.slice A3 m3 c3) W.heap.size w'.heap.size) ∧ Below W.heap.size W w') := fun W v hv => by
      refine (HR.out W v hv).mono ?_
      rintro e w' ⟨h1, h2⟩
      rw [hr] at h1
      obtain ⟨v3, rfl, h3, h4⟩ := h1
      obtain ⟨A3, c3, rfl, _⟩ := id h3
      exact ⟨A3, _, c3, rfl, ⟨h3, h4⟩, h2⟩
    clear hr
    go_enter Tryz.func29, Tryz.ntmps29
    go_upto_region 3 with (first
      | (go_at_call 31; refine (HD.out _ (below_new _ _)).mono ?_; rintro e w1 ⟨A9, m9, c9, o, rfl, H9, hb1⟩)
      | (go_at_call 14; refine (HR.out _ _ H9.out).mono ?_; rintro e w2 ⟨A3, m3, c3, rfl, HV, hb2⟩))
    obtain ⟨b8, hb8⟩ : ∃ b8, w2.heap.size = b8 := ⟨_, rfl⟩
    refine wp_ltc (fun W => Hid (Blk W w.heap.size 24 #[.int .i64 0, .int .i64 0, .int .i64 0, .slice Option.none 0 0] ∧ Blk W b8 24 #[.int .i64 g, .int .i64 a, .int .i64 n, .slice A3 m3 c3] ∧ Below w.heap.size w W ∧ SlI W (.slice A3 m3 c3) t ∧ (Value.slice A3 m3 c3).ownBlock ≠ some w.heap.size)) ?_ ?_
    · have e1 := below_new w2 (.cells #[.int .i64 g, .int .i64 a, .int .i64 n, .slice A3 m3 c3] 24)
      have e2 := (hb1.trans (hb2.mono hb1.size)).trans (e1.mono (Nat.le_trans hb1.size hb2.size))
      refine ⟨(Blk.new w _ _).keep e2 (by simp), by rw [← hb8]; exact Blk.new _ _ _, (below_new w _).trans (e2.mono (by simp)), HV.out.1.below e1, fun q => ?_⟩
      have h1 := (HV.out.2 _ q).1
      have h2 := hb1.size
      simp at h2
      omega
    rw [hb8]
    intro W HW
    clear hb1 hb2 hb8
    have q0 : W.cell? ⟨b8, 0, Option.none⟩ = some (.int .i64 g) := HW.out.2.1.cell 0
    have q1 : W.cell? ⟨b8, 1, Option.none⟩ = some (.int .i64 a) := HW.out.2.1.cell 1
    have q2 : W.cell? ⟨b8, 2, Option.none⟩ = some (.int .i64 n) := HW.out.2.1.cell 2
    have q3 : W.cell? ⟨b8, 3, Option.none⟩ = some (.slice A3 m3 c3) := HW.out.2.1.cell 3
    have r0 : W.cell? ⟨w.heap.size, 0, Option.none⟩ = some (.int .i64 0) := HW.out.1.cell 0
    have r1 : W.cell? ⟨w.heap.size, 1, Option.none⟩ = some (.int .i64 0) := HW.out.1.cell 1
    have r2 : W.cell? ⟨w.heap.size, 2, Option.none⟩ = some (.int .i64 0) := HW.out.1.cell 2
    have r3 : W.cell? ⟨w.heap.size, 3, Option.none⟩ = some (.slice Option.none 0 0) := HW.out.1.cell 3
    have rf : ∀ j, W.frozen? ⟨w.heap.size, j, Option.none⟩ = false := fun j => HW.out.1.free j
    go_wp2
    refine bodyPost_ret (v := .tuple #[staV g a n (.slice A3 m3 c3), .int .i64 0]) (by simp [results, Tryz.results29, go_sem, cell_set_eq9, r0, r1, r2, r3]) rfl ?_
    refine HE.out _ _ _ rfl ((((HW.out.2.2.2.1.set HW.out.2.2.2.2).set HW.out.2.2.2.2).set HW.out.2.2.2.2).set HW.out.2.2.2.2) ?_
    iterate 4 (refine Below.setCell ?_ (by simp) _)
    exact HW.out.2.2.1
end Go.Proofs.YtofkfafdodhmdaaGreatDoor
