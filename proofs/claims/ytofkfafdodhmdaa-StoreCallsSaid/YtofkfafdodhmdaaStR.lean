/- Calls that came in; joistlaw05.great. Conditions: the slice holds its calls. -/
import Derived.Test.YtofkfafdodhmdaaStQa
namespace Go.Proofs.Ytofkfafdodhmdaa
open Go.RowKit

/-- A call in memory: five words. -/
structure ClAt (w : World) (b o : Nat) (c : Cl) : Prop where
  c0 : w.cell? ⟨b, o, none⟩ = some (.int .i64 c.wh)
  c1 : w.cell? ⟨b, o + 1, none⟩ = some (.string c.nm)
  c2 : w.cell? ⟨b, o + 2, none⟩ = some (.string c.tg)
  c3 : w.cell? ⟨b, o + 3, none⟩ = some c.dv
  c4 : w.cell? ⟨b, o + 4, none⟩ = some (.int .i64 c.n)
  sl : SlA w c.dv c.d
theorem ClAt.below {w w' : World} {b o : Nat} {c : Cl} (h : ClAt w b o c) (hb : Below w.heap.size w w') : ClAt w' b o c := by
  have hlt := cell_lt h.c0
  exact ⟨(hb.cell (p := ⟨b, o, none⟩) hlt).trans h.c0, (hb.cell (p := ⟨b, o + 1, none⟩) hlt).trans h.c1, (hb.cell (p := ⟨b, o + 2, none⟩) hlt).trans h.c2, (hb.cell (p := ⟨b, o + 3, none⟩) hlt).trans h.c3, (hb.cell (p := ⟨b, o + 4, none⟩) hlt).trans h.c4, h.sl.below hb⟩
/-- The slice holds the calls. -/
def CArg (w : World) (v : Value) (cs : List Cl) : Prop := ∃ A c, v = .slice A cs.length c ∧ cs.length ≤ 9223372036854775807 ∧ ∀ i (h : i < cs.length), ∃ b o, A = some ⟨b, o, none⟩ ∧ ClAt w b (o + i * 5) cs[i]
theorem CArg.below {w w' : World} {v : Value} {cs : List Cl} (h : CArg w v cs) (hb : Below w.heap.size w w') : CArg w' v cs := by
  obtain ⟨A, c, e, hl, hh⟩ := h
  exact ⟨A, c, e, hl, fun i hi => by obtain ⟨b, o, e, h⟩ := hh i hi; exact ⟨b, o, e, h.below hb⟩⟩
/-- Calls that are looked at. -/
structure Smalls (cs : List Cl) : Prop where
  len : cs.length ≤ 80
  each : ∀ c ∈ cs, c.nm.size ≤ 100 ∧ c.tg.size ≤ 100 ∧ c.d.length ≤ 3000
def datN (cs : List Cl) : Nat := (cs.map fun c => c.d.length).sum
theorem datN_take {cs : List Cl} {k : Nat} (h : k < cs.length) : datN (cs.take (k + 1)) = datN (cs.take k) + cs[k].d.length := by
  unfold datN
  rw [List.take_succ_eq_append_getElem h, List.map_append, List.sum_append_nat]
  simp

/-- Just the calls that are looked at. -/
structure SmallP (cs : List Cl) : Prop where
  len : cs.length ≤ 80
  each : ∀ k (h : k < cs.length), datN (cs.take (k + 1)) ≤ 3000 ∧ cs[k].nm.size ≤ 100 ∧ cs[k].tg.size ≤ 100
theorem SmallP.smalls {cs : List Cl} (h : SmallP cs) : Smalls cs := ⟨h.len, fun c hc => by
  obtain ⟨k, hk, rfl⟩ := List.getElem_of_mem hc
  obtain ⟨h1, h2, h3⟩ := h.each k hk
  rw [datN_take hk] at h1
  exact ⟨h2, h3, by omega⟩⟩
/-- What great says. -/
def GrE (w : World) (cs : List Cl) (e : Ending) (w' : World) : Prop := ∃ g, e = .returned (.bool g) ∧ (g = false ↔ SmallP cs) ∧ Below w.heap.size w w'
theorem gr_yes {w w' : World} {cs : List Cl} {e : Ending} (h : GrE w cs e w') (hs : SmallP cs) : e = .returned (.bool false) ∧ Below w.heap.size w w' := by
  obtain ⟨g, e1, hg, hb⟩ := h
  rw [hg.2 hs] at e1
  exact ⟨e1, hb⟩
theorem gr_no {w w' : World} {cs : List Cl} {e : Ending} (h : GrE w cs e w') (hs : ¬ SmallP cs) : e = .returned (.bool true) ∧ Below w.heap.size w w' := by
  obtain ⟨g, e1, hg, hb⟩ := h
  cases g with
  | false => exact absurd (hg.1 rfl) hs
  | true => exact ⟨e1, hb⟩

set_option maxRecDepth 100000 in
set_option maxHeartbeats 4000000 in
theorem great_ok (v : Value) (cs : List Cl) (hnz : ∀ c ∈ cs, c.nm.size ≤ maxLen ∧ c.tg.size ≤ maxLen ∧ c.d.length ≤ 4611686018427387904) (w : World) (h : CArg w v cs) : Calls Try.prog 8 #[v] w (GrE w cs) := by
  obtain ⟨A, c, rfl, hl, hh⟩ := h
  have HH := hid hh
  have HNZ := hid hnz
  obtain ⟨n, hn⟩ : ∃ n, cs.length = n := ⟨_, rfl⟩
  have HN := hid hn
  rw [hn] at hl ⊢
  clear hn hh hnz
  by_cases h80 : (n : Int) ≤ 80
  · have g1 : ¬ (80 : Int) < (n : Int) := by omega
    have hn80 : n ≤ 80 := by omega
    go_enter Try.func8, Try.ntmps8
    go_wp2
    go_loopw [3, 4] (fun vn vi wr => ∃ k s : Nat, vn = .int .i64 (s : Int) ∧ vi = .int .i64 (k : Int) ∧ k ≤ n ∧ s ≤ 3000 ∧ Hid (s = datN (cs.take k) ∧ ∀ j (h : j < cs.length), j < k → datN (cs.take (j + 1)) ≤ 3000 ∧ cs[j].nm.size ≤ 100 ∧ cs[j].tg.size ≤ 100) ∧ Below w.heap.size w wr) (fun _ vi _ => n - (intOf vi).toNat)
    case atStart => exact ⟨0, 0, rfl, rfl, Nat.zero_le _, Nat.zero_le _, ⟨rfl, fun j _ hj => absurd hj (by omega)⟩, Below.refl _ _⟩
    case round =>
      obtain ⟨k, s, rfl, rfl, hk, hs, HI, hb⟩ := hrel
      by_cases hkn : k < n
      · have hkl : k < cs.length := by rw [HN.out]; exact hkn
        obtain ⟨b, o, rfl, hc⟩ := HH.out k hkl
        have hcw := hc.below hb
        have hnz := HNZ.out cs[k] (List.getElem_mem hkl)
        obtain ⟨x, hx⟩ : ∃ x, cs[k] = x := ⟨_, rfl⟩
        rw [hx] at hcw hnz
        have c1 := hcw.c1
        have c2 := hcw.c2
        obtain ⟨Ad, cd, ed, _⟩ := hcw.sl
        obtain ⟨nd, hnd⟩ : ∃ nd, x.d.length = nd := ⟨_, rfl⟩
        rw [hnd] at ed
        have c3 := hcw.c3
        rw [ed] at c3
        have hdt := datN_take hkl
        rw [hx, hnd] at hdt
        have HD := hid hdt
        have HX := hid hx
        have HKL := hid hkl
        have HND := hid hnd
        have Hb := hid hb
        have hnz1 : x.nm.size ≤ 9223372036854775807 := by have := hnz.1; unfold maxLen at this; omega
        have hnz2 : x.tg.size ≤ 9223372036854775807 := by have := hnz.2.1; unfold maxLen at this; omega
        have hndb : nd ≤ 4611686018427387904 := by rw [← hnd]; exact hnz.2.2
        clear hc hcw hnz hx ed hdt hnd hb
        by_cases q1 : s + nd ≤ 3000
        · have w1 : IntKind.i64.wrap ((s : Int) + (nd : Int)) = ((s + nd : Nat) : Int) := by rw [IntKind.wrap_i64]; omega
          have g2 : decide ((3000 : Int) < ((s + nd : Nat) : Int)) = false := decide_eq_false (by omega)
          by_cases q2 : x.nm.size ≤ 100
          · have g3 : decide ((100 : Int) < (x.nm.size : Int)) = false := decide_eq_false (by omega)
            by_cases q3 : x.tg.size ≤ 100
            · have g4 : decide ((100 : Int) < (x.tg.size : Int)) = false := decide_eq_false (by omega)
              have HQ : Hid (x.nm.size ≤ 100 ∧ x.tg.size ≤ 100 ∧ nd ≤ 3000) := ⟨q2, q3, by omega⟩
              clear q2 q3
              go_wp2
              go_roundw
              case rel =>
                refine ⟨k + 1, s + nd, by first | rfl | simp, by go_num, by omega, q1, ⟨by rw [HD.out, HI.out.1], fun j hj hjk => ?_⟩, Hb.out⟩
                rcases Nat.lt_or_ge j k with r | r
                · exact HI.out.2 j hj r
                · obtain rfl : j = k := by omega
                  rw [HX.out, HD.out, ← HI.out.1]
                  exact ⟨q1, HQ.out.1, HQ.out.2.1⟩
              case measure => simp [intOf]; omega
            · have g4 : decide ((100 : Int) < (x.tg.size : Int)) = true := decide_eq_true (by omega)
              have HQ3 := hid q3
              clear q2 q3
              go_wp2
              go_ret
              refine ⟨true, rfl, ⟨fun h => (by cases h), fun h => ?_⟩, Hb.out⟩
              have := (h.each k HKL.out).2.2
              rw [HX.out] at this
              exact absurd this HQ3.out
          · have g3 : decide ((100 : Int) < (x.nm.size : Int)) = true := decide_eq_true (by omega)
            have HQ2 := hid q2
            clear q2
            go_wp2
            go_ret
            refine ⟨true, rfl, ⟨fun h => (by cases h), fun h => ?_⟩, Hb.out⟩
            have := (h.each k HKL.out).2.1
            rw [HX.out] at this
            exact absurd this HQ2.out
        · have w1 : IntKind.i64.wrap ((s : Int) + (nd : Int)) = ((s + nd : Nat) : Int) := by rw [IntKind.wrap_i64]; omega
          have g2 : decide ((3000 : Int) < ((s + nd : Nat) : Int)) = true := decide_eq_true (by omega)
          have HQ1 := hid q1
          go_wp2
          go_ret
          refine ⟨true, rfl, ⟨fun h => (by cases h), fun h => ?_⟩, Hb.out⟩
          have := (h.each k HKL.out).1
          rw [HD.out, ← HI.out.1] at this
          exact absurd this HQ1.out
      · obtain rfl : k = n := by omega
        go_wp2
        go_ret
        exact ⟨false, rfl, ⟨fun _ => ⟨by rw [HN.out]; exact hn80, fun j hj => HI.out.2 j hj (by rw [HN.out] at hj; exact hj)⟩, fun _ => rfl⟩, hb⟩
  · have g1 : (80 : Int) < (n : Int) := by omega
    go_enter Try.func8, Try.ntmps8
    go_wp2
    go_ret
    refine ⟨true, rfl, ⟨fun h => (by cases h), fun h => ?_⟩, Below.refl _ _⟩
    have := h.len
    rw [HN.out] at this
    omega
end Go.Proofs.Ytofkfafdodhmdaa
