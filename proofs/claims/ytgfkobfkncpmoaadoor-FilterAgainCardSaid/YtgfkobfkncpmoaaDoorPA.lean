/- Several texts in one: JBa JF. Conditions: as each theorem names them. -/
import Derived.Test.YtgfkobfkncpmoaaDoorP7
import Derived.Deep.QuietTactic
/- Cells can be told apart; texts that differ, as bytes. Conditions: as each theorem names them. -/
namespace Go.Proofs.YtgfkobfkncpmoaaDoor
open Go.RowKit

deriving instance DecidableEq for CT
theorem ba_ne2 {x y : ByteArray} (h : x ≠ y) : ¬ x.toList = y.toList := fun e => by
  have := ba_ne h
  rw [e] at this
  simp at this
end Go.Proofs.YtgfkobfkncpmoaaDoor

/- The statements' own comparison of two lists of cells. Conditions: both stand. -/
namespace Go.Proofs.YtgfkobfkncpmoaaDoor
open Go.RowKit

set_option maxHeartbeats 4000000 in
set_option maxRecDepth 100000 in
theorem samecells_any (v1 v2 : Value) (u t : List CT) (w : World) (h1 : ClA w v1 u) (h2 : ClA w v2 t) :
    Calls Tryd.prog 38 #[v1, v2] w fun e w' => e = .returned (.bool (decide (u = t))) ∧ Below w.heap.size w w' := by
  have mixed : Tryd.prog.follows .mixedOrders = true := by kernel_rfl
  obtain ⟨A1, c1, rfl, hc1, hm1, hh1⟩ := h1
  obtain ⟨A2, c2, rfl, hc2, hm2, hh2⟩ := h2
  have H1 := hid hh1
  have H2 := hid hh2
  clear hh1 hh2
  obtain ⟨n, hn⟩ : ∃ n, u.length = n := ⟨_, rfl⟩
  have HN := hid hn
  rw [hn] at hc1 ⊢
  clear hn
  by_cases hl : t.length = n
  · have HT := hid hl
    rw [hl] at hc2 ⊢
    clear hl
    go_enter Tryd.func38, Tryd.ntmps38
    go_wp2
    go_loopw [5] (fun vi wr => Hid (Below w.heap.size w wr) ∧ ∃ i : Nat, i ≤ n ∧ vi = .int .i64 i ∧ Hid (u.take i = t.take i)) (fun vi _ => n - (intOf vi).toNat)
    case atStart => exact ⟨Below.refl _ _, 0, Nat.zero_le _, rfl, rfl⟩
    case round =>
      obtain ⟨HB, i, hi, rfl, HE⟩ := hrel
      by_cases hlt : i < n
      · have hiu : i < u.length := by rw [HN.out]; exact hlt
        have hit : i < t.length := by rw [HT.out]; exact hlt
        have hiz : (i : Int) < (n : Int) := by omega
        obtain ⟨b, off, rfl, hhc⟩ := H1.out (by omega)
        obtain ⟨b8, off8, rfl, hhd⟩ := H2.out (by omega)
        have hbw : b < w.heap.size := hhc.lt (by omega)
        have hbw8 : b8 < w.heap.size := hhd.lt (by omega)
        obtain ⟨c, hc⟩ : ∃ c, u[i] = c := ⟨_, rfl⟩
        obtain ⟨d, hd⟩ : ∃ d, t[i] = d := ⟨_, rfl⟩
        have P : wr.cell? ⟨b, off + i * 8, none⟩ = some (.string c.r) ∧ wr.cell? ⟨b, off + i * 8 + 1, none⟩ = some (.string c.f) ∧ wr.cell? ⟨b, off + i * 8 + 2, none⟩ = some (.string c.q) ∧ wr.cell? ⟨b, off + i * 8 + 3, none⟩ = some (.int .i64 c.t) ∧ wr.cell? ⟨b, off + i * 8 + 4, none⟩ = some (.int .i64 c.k) ∧ wr.cell? ⟨b, off + i * 8 + 5, none⟩ = some (.int .i64 c.vk) ∧ wr.cell? ⟨b, off + i * 8 + 6, none⟩ = some (.int .i64 c.vn) ∧ wr.cell? ⟨b, off + i * 8 + 7, none⟩ = some (.string c.s) := by
          rw [← hc]
          exact (hhc.below HB.out hbw).words i hiu
        have Pd : wr.cell? ⟨b8, off8 + i * 8, none⟩ = some (.string d.r) ∧ wr.cell? ⟨b8, off8 + i * 8 + 1, none⟩ = some (.string d.f) ∧ wr.cell? ⟨b8, off8 + i * 8 + 2, none⟩ = some (.string d.q) ∧ wr.cell? ⟨b8, off8 + i * 8 + 3, none⟩ = some (.int .i64 d.t) ∧ wr.cell? ⟨b8, off8 + i * 8 + 4, none⟩ = some (.int .i64 d.k) ∧ wr.cell? ⟨b8, off8 + i * 8 + 5, none⟩ = some (.int .i64 d.vk) ∧ wr.cell? ⟨b8, off8 + i * 8 + 6, none⟩ = some (.int .i64 d.vn) ∧ wr.cell? ⟨b8, off8 + i * 8 + 7, none⟩ = some (.string d.s) := by
          rw [← hd]
          exact (hhd.below HB.out hbw8).words i hit
        obtain ⟨p0, p1, p2, p3, p4, p5, p6, p7⟩ := P
        obtain ⟨d0, d1, d2, d3, d4, d5, d6, d7⟩ := Pd
        by_cases he : c = d
        · have HE2 : Hid (u.take (i + 1) = t.take (i + 1)) := by
            unfold Hid
            rw [List.take_add_one, List.take_add_one, HE.out, List.getElem?_eq_getElem hiu, List.getElem?_eq_getElem hit, hc, hd, he]
          clear hc hd hhc hhd HE
          subst he
          go_upto_region 6 with (fail); go_quiet (fail); go_wp2
          go_roundw
          case rel => exact ⟨Go.below_drewN HB.out _, i + 1, by omega, by go_num, HE2.out⟩
          case measure => simp [intOf]; omega
        · have HNE : Hid (decide (u = t) = false) := by
            refine decide_eq_false fun e => he ?_
            subst e
            rw [← hc, ← hd]
          clear hc hd hhc hhd HE
          by_cases e0 : c.r = d.r
          · have n0 : c.r.toList = d.r.toList := by rw [e0]
            by_cases e1 : c.f = d.f
            · have n1 : c.f.toList = d.f.toList := by rw [e1]
              by_cases e2 : c.q = d.q
              · have n2 : c.q.toList = d.q.toList := by rw [e2]
                by_cases e3 : c.t = d.t
                · have n3 : c.t = d.t := e3
                  by_cases e4 : c.k = d.k
                  · have n4 : c.k = d.k := e4
                    by_cases e5 : c.vk = d.vk
                    · have n5 : c.vk = d.vk := e5
                      by_cases e6 : c.vn = d.vn
                      · have n6 : c.vn = d.vn := e6
                        by_cases e7 : c.s = d.s
                        · have n7 : c.s.toList = d.s.toList := by rw [e7]
                          exfalso
                          apply he
                          cases d; cases c; simp only at e0 e1 e2 e3 e4 e5 e6 e7; subst e0 e1 e2 e3 e4 e5 e6 e7; rfl
                        · have n7 : ¬ c.s.toList = d.s.toList := ba_ne2 e7
                          clear he e0 e1 e2 e3 e4 e5 e6 e7
                          go_upto_region 6 with (fail); go_quiet (fail); go_wp2
                          go_ret
                          refine ⟨?_, Go.below_drewN HB.out _⟩
                          rw [HNE.out]
                          rfl
                      · have n6 : ¬ c.vn = d.vn := e6
                        clear he e0 e1 e2 e3 e4 e5 e6
                        go_upto_region 6 with (fail); go_quiet (fail); go_wp2
                        go_ret
                        refine ⟨?_, Go.below_drewN HB.out _⟩
                        rw [HNE.out]
                        rfl
                    · have n5 : ¬ c.vk = d.vk := e5
                      clear he e0 e1 e2 e3 e4 e5
                      go_upto_region 6 with (fail); go_quiet (fail); go_wp2
                      go_ret
                      refine ⟨?_, Go.below_drewN HB.out _⟩
                      rw [HNE.out]
                      rfl
                  · have n4 : ¬ c.k = d.k := e4
                    clear he e0 e1 e2 e3 e4
                    go_upto_region 6 with (fail); go_quiet (fail); go_wp2
                    go_ret
                    refine ⟨?_, Go.below_drewN HB.out _⟩
                    rw [HNE.out]
                    rfl
                · have n3 : ¬ c.t = d.t := e3
                  clear he e0 e1 e2 e3
                  go_upto_region 6 with (fail); go_quiet (fail); go_wp2
                  go_ret
                  refine ⟨?_, Go.below_drewN HB.out _⟩
                  rw [HNE.out]
                  rfl
              · have n2 : ¬ c.q.toList = d.q.toList := ba_ne2 e2
                clear he e0 e1 e2
                go_upto_region 6 with (fail); go_quiet (fail); go_wp2
                go_ret
                refine ⟨?_, Go.below_drewN HB.out _⟩
                rw [HNE.out]
                rfl
            · have n1 : ¬ c.f.toList = d.f.toList := ba_ne2 e1
              clear he e0 e1
              go_upto_region 6 with (fail); go_quiet (fail); go_wp2
              go_ret
              refine ⟨?_, Go.below_drewN HB.out _⟩
              rw [HNE.out]
              rfl
          · have n0 : ¬ c.r.toList = d.r.toList := ba_ne2 e0
            clear he e0
            go_upto_region 6 with (fail); go_quiet (fail); go_wp2
            go_ret
            refine ⟨?_, Go.below_drewN HB.out _⟩
            rw [HNE.out]
            rfl
      · obtain rfl : i = n := by omega
        have HQ : Hid (decide (u = t) = true) := by
          have h := HE.out
          rw [List.take_of_length_le (by rw [HN.out]; exact Nat.le_refl _), List.take_of_length_le (by rw [HT.out]; exact Nat.le_refl _)] at h
          exact decide_eq_true h
        go_wp2
        go_ret
        exact ⟨by rw [HQ.out]; rfl, HB.out⟩
  · have HQ : Hid (decide (u = t) = false) := decide_eq_false fun e => hl (by rw [← e]; exact HN.out)
    obtain ⟨m, hm⟩ : ∃ m, t.length = m := ⟨_, rfl⟩
    rw [hm] at hl hc2 ⊢
    have hne : ((n : Int) == (m : Int)) = false := by simp; omega
    have hne2 : ((n : Int) != (m : Int)) = true := by simp; omega
    clear hl hm
    go_enter Tryd.func38, Tryd.ntmps38
    go_wp2
    go_ret
    exact ⟨by rw [HQ.out]; rfl, Below.refl _ _⟩
end Go.Proofs.YtgfkobfkncpmoaaDoor
