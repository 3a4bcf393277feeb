/- The document's Right. Conditions: the tables' slice holds its ints. -/
import Derived.Test.YtofkfafdodhmdaaGreatDoorNB
import Derived.RegionTactic
import Derived.BigQuiet
import Derived.Deep.QuietTactic
namespace Go.Proofs.YtofkfafdodhmdaaGreatDoor
open Go.RowKit

/-- Four cells hold a state. -/
structure St4 (w : World) (b : Nat) (g a n : Int) (v : Value) : Prop where
  c0 : w.cell? ⟨b, 0, none⟩ = some (.int .i64 g)
  c1 : w.cell? ⟨b, 1, none⟩ = some (.int .i64 a)
  c2 : w.cell? ⟨b, 2, none⟩ = some (.int .i64 n)
  c3 : w.cell? ⟨b, 3, none⟩ = some v
theorem St4.new (w : World) (g a n : Int) (v : Value) (T : TypeId) (fr : Nat × Nat) : St4 (w.alloc (.cells #[.int .i64 g, .int .i64 a, .int .i64 n, v] T fr)) w.heap.size g a n v where
  c0 := by rw [cell_of_row _ _ _ _ _ _ (heap_alloc_new w _)]; rfl
  c1 := by rw [cell_of_row _ _ _ _ _ _ (heap_alloc_new w _)]; rfl
  c2 := by rw [cell_of_row _ _ _ _ _ _ (heap_alloc_new w _)]; rfl
  c3 := by rw [cell_of_row _ _ _ _ _ _ (heap_alloc_new w _)]; rfl
theorem St4.below {w w' : World} {b : Nat} {g a n : Int} {v : Value} (h : St4 w b g a n v) {B : Nat} (hb : Below B w w') (hB : b < B) : St4 w' b g a n v where
  c0 := (hb.cell (p := ⟨b, 0, none⟩) hB).trans h.c0
  c1 := (hb.cell (p := ⟨b, 1, none⟩) hB).trans h.c1
  c2 := (hb.cell (p := ⟨b, 2, none⟩) hB).trans h.c2
  c3 := (hb.cell (p := ⟨b, 3, none⟩) hB).trans h.c3
theorem St4.lt {w : World} {b : Nat} {g a n : Int} {v : Value} (h : St4 w b g a n v) : b < w.heap.size := cell_lt h.c0

set_option maxHeartbeats 4000000 in
theorem rright_bad (A : Option Addr) (m c : Nat) (g a n : Int) (w : World) (h : (decide (1 ≤ g ∧ g ≤ 1099511627776) && decide (0 ≤ a ∧ a ≤ 1099511627776) && decide (1 ≤ n ∧ n ≤ 999999) && decide (m ≤ 50)) = false) :
    Calls Tryz.prog 16 #[staV g a n (.slice A m c)] w fun e w' => e = .returned (.bool false) ∧ Below w.heap.size w w' := by
  have hh : ¬ ((1 ≤ g ∧ g ≤ 1099511627776) ∧ (0 ≤ a ∧ a ≤ 1099511627776) ∧ (1 ≤ n ∧ n ≤ 999999) ∧ m ≤ 50) := fun ⟨x1, x2, x3, x4⟩ => by
    rw [decide_eq_true x1, decide_eq_true x2, decide_eq_true x3, decide_eq_true x4] at h
    cases h
  clear h
  by_cases q1 : g < 1
  · clear hh
    go_enter Tryz.func16, Tryz.ntmps16
    go_wp2
    go_ret
    exact ⟨rfl, below_new _ _⟩
  by_cases q2 : 1099511627776 < g
  · clear hh
    go_enter Tryz.func16, Tryz.ntmps16
    go_wp2
    go_ret
    exact ⟨rfl, below_new _ _⟩
  by_cases q3 : a < 0
  · clear hh
    go_enter Tryz.func16, Tryz.ntmps16
    go_wp2
    go_ret
    exact ⟨rfl, below_new _ _⟩
  by_cases q4 : 1099511627776 < a
  · clear hh
    go_enter Tryz.func16, Tryz.ntmps16
    go_wp2
    go_ret
    exact ⟨rfl, below_new _ _⟩
  by_cases q5 : n < 1
  · clear hh
    go_enter Tryz.func16, Tryz.ntmps16
    go_wp2
    go_ret
    exact ⟨rfl, below_new _ _⟩
  by_cases q6 : 999999 < n
  · clear hh
    go_enter Tryz.func16, Tryz.ntmps16
    go_wp2
    go_ret
    exact ⟨rfl, below_new _ _⟩
  have q7 : 50 < (m : Int) := by omega
  clear hh
  go_enter Tryz.func16, Tryz.ntmps16
  go_wp2
  go_ret
  exact ⟨rfl, below_new _ _⟩

set_option maxHeartbeats 4000000 in
theorem rright_zero (A : Option Addr) (c : Nat) (g a n : Int) (w : World) (h1 : 1 ≤ g ∧ g ≤ 1099511627776) (h2 : 0 ≤ a ∧ a ≤ 1099511627776) (h3 : 1 ≤ n ∧ n ≤ 999999) :
    Calls Tryz.prog 16 #[staV g a n (.slice A 0 c)] w fun e w' => e = .returned (.bool true) ∧ Below w.heap.size w w' := by
  obtain ⟨p1, p2⟩ := h1
  obtain ⟨p3, p4⟩ := h2
  obtain ⟨p5, p6⟩ := h3
  go_enter Tryz.func16, Tryz.ntmps16
  go_wp2
  go_loopw [3] (fun vi wr => vi = .int .i64 0 ∧ w.alloc (.cells #[.int .i64 g, .int .i64 a, .int .i64 n, .slice A 0 c] 24) = wr) (fun _ _ => 0)
  case atStart => exact ⟨rfl, rfl⟩
  case round =>
    obtain ⟨rfl, rfl⟩ := hrel
    go_wp2
    go_ret
    exact ⟨rfl, below_new _ _⟩

set_option maxRecDepth 100000 in
set_option maxHeartbeats 8000000 in
theorem rright_in (b o c m : Nat) (zs : List Int) (h0 : zs.length = m) (hm : m ≤ 50) (g a n : Int) (w : World) (hh : HoldsI w b o zs) (hb : b < w.heap.size) (h1 : 1 ≤ g ∧ g ≤ 1099511627776) (h2 : 0 ≤ a ∧ a ≤ 1099511627776) (h3 : 1 ≤ n ∧ n ≤ 999999) :
    Calls Tryz.prog 16 #[staV g a n (.slice (some ⟨b, o, none⟩) m c)] w fun e w' => e = .returned (.bool (tabsB n zs)) ∧ Below w.heap.size w w' := by
  obtain ⟨p1, p2⟩ := h1
  obtain ⟨p3, p4⟩ := h2
  obtain ⟨p5, p6⟩ := h3
  have H1 := hid h0
  have K0 := hid hh
  clear h0 hh
  go_enter Tryz.func16, Tryz.ntmps16
  go_upto_region 3 with (fail)
  obtain ⟨s, hs⟩ : ∃ s, w.heap.size = s := ⟨_, rfl⟩
  rw [hs]
  refine wp_ltc (fun W => Hid (Below w.heap.size w W) ∧ Hid (HoldsI W b o zs) ∧ W.cell? ⟨s, 2, none⟩ = some (.int .i64 n) ∧ W.cell? ⟨s, 3, none⟩ = some (.slice (some ⟨b, o, none⟩) m c)) ?_ ?_
  · have hB : Below w.heap.size w (w.alloc (.cells #[.int .i64 g, .int .i64 a, .int .i64 n, .slice (some ⟨b, o, none⟩) m c] 24)) := below_new _ _
    have h4 := St4.new w g a n (.slice (some ⟨b, o, none⟩) m c) 24 (0, 0)
    rw [hs] at h4
    exact ⟨hB, K0.out.below hB hb, h4.c2, h4.c3⟩
  rintro W ⟨HB, K1, k2, k3⟩
  clear K0 hb p1 p2 p3 p4
  go_wp2
  go_loopw [3] (fun vi wr => ∃ i d : Nat, i ≤ m ∧ vi = .int .i64 i ∧ Hid (tabsB n (zs.take i) = true) ∧ wr = W.drewN d) (fun vi _ => m - (intOf vi).toNat)
  case atStart => exact ⟨0, 0, by omega, rfl, (by unfold Hid; rw [List.take_zero]; exact tabs_nil n), rfl⟩
  case round =>
    obtain ⟨i, d, hi, rfl, HE, rfl⟩ := hrel
    by_cases hlt : i < m
    · have g1 : i < zs.length := by rw [H1.out]; exact hlt
      have q1 := K1.out i g1
      obtain ⟨y, hy⟩ : ∃ y : Int, zs.getD i 0 = y := ⟨_, rfl⟩
      rw [hy] at q1
      have HY : Hid (zs[i] = y) := by unfold Hid; rw [← hy, List.getD_eq_getElem?_getD, List.getElem?_eq_getElem g1]; rfl
      clear hy
      have HT := hid (tabs_take (n := n) g1 (by rw [H1.out]; exact hm))
      by_cases hy1 : y < 1
      · have HF : Hid (tabsB n zs = false) := by
          refine tabs_more (by rw [H1.out]; exact hm) (i + 1) ?_
          rw [HT.out, HE.out, HY.out, decide_eq_false (show ¬ (1 ≤ y ∧ y < n) by omega)]
          rfl
        have hb1 : decide (y < 1) = true := decide_eq_true hy1
        clear hy1
        go_wp2
        go_quiet (fail)
        go_wp2
        go_ret
        exact ⟨by rw [HF.out]; rfl, by repeat' (first | exact HB.out | apply Below.drew | apply Go.below_drewN)⟩
      have hb1 : decide (y < 1) = false := decide_eq_false hy1
      by_cases hy2 : n ≤ y
      · have HF : Hid (tabsB n zs = false) := by
          refine tabs_more (by rw [H1.out]; exact hm) (i + 1) ?_
          rw [HT.out, HE.out, HY.out, decide_eq_false (show ¬ (1 ≤ y ∧ y < n) by omega)]
          rfl
        have hb2 : decide (n ≤ y) = true := decide_eq_true hy2
        clear hy1 hy2
        go_wp2
        go_quiet (fail)
        go_wp2
        go_ret
        exact ⟨by rw [HF.out]; rfl, by repeat' (first | exact HB.out | apply Below.drew | apply Go.below_drewN)⟩
      have hb2 : decide (n ≤ y) = false := decide_eq_false hy2
      have HW : Hid (decide (1 ≤ y ∧ y < n) = true) := decide_eq_true ⟨by omega, by omega⟩
      clear hy1 hy2
      go_wp2
      go_quiet (fail)
      go_wp2
      go_loopw [4] (fun vi wr => ∃ k d : Nat, k ≤ i ∧ vi = .int .i64 k ∧ Hid (¬ y ∈ zs.take k) ∧ wr = W.drewN d) (fun vi _ => i - (intOf vi).toNat)
      case atStart => exact ⟨0, _, by omega, rfl, (by unfold Hid; rw [List.take_zero]; exact List.not_mem_nil), by first | rfl | exact World.drewN_drewN _ _ _⟩
      case round =>
        obtain ⟨k, d2, hk, rfl, HN, rfl⟩ := hrel
        by_cases hlt2 : k < i
        · have g2 : k < zs.length := by omega
          have q2 := K1.out k g2
          obtain ⟨x, hx⟩ : ∃ x : Int, zs.getD k 0 = x := ⟨_, rfl⟩
          rw [hx] at q2
          have HX : Hid (zs[k] = x) := by unfold Hid; rw [← hx, List.getD_eq_getElem?_getD, List.getElem?_eq_getElem g2]; rfl
          clear hx
          by_cases hxy : x = y
          · have HF : Hid (tabsB n zs = false) := by
              refine tabs_more (by rw [H1.out]; exact hm) (i + 1) ?_
              rw [HT.out, HE.out, HY.out, decide_eq_true (show y ∈ zs.take i from ?_)]
              · simp
              · rw [← hxy, ← HX.out]
                exact List.mem_take_iff_getElem.2 ⟨k, by omega, rfl⟩
            subst hxy
            have hb3 : (x == x) = true := by simp
            go_wp2
            go_quiet (fail)
            go_wp2
            go_ret
            exact ⟨by rw [HF.out]; rfl, by repeat' (first | exact HB.out | apply Below.drew | apply Go.below_drewN)⟩
          · have hb3 : (x == y) = false := by simpa using hxy
            have HV := hid hxy
            clear hxy
            go_wp2
            go_quiet (fail)
            go_wp2
            go_roundw
            case rel =>
              refine ⟨k + 1, _, by omega, by go_num, ?_, by first | rfl | exact World.drewN_drewN _ _ _⟩
              unfold Hid
              rw [List.take_succ_eq_append_getElem g2, List.mem_append, List.mem_singleton, HX.out]
              rintro (e | e)
              · exact HN.out e
              · exact HV.out e.symm
            case measure => simp [intOf]; omega
        · have ek : k = i := by omega
          subst ek
          go_wp2
          go_roundw
          case rel =>
            refine ⟨k + 1, _, by omega, by go_num, ?_, rfl⟩
            unfold Hid
            rw [HT.out, HE.out, HY.out, HW.out, decide_eq_false HN.out]
            rfl
          case measure => simp [intOf]; omega
    · go_wp2
      go_ret
      have e := HE.out
      rw [List.take_of_length_le (by have := H1.out; omega)] at e
      exact ⟨by rw [e]; rfl, by repeat' (first | exact HB.out | apply Below.drew | apply Go.below_drewN)⟩

theorem rright_any (s : Sta) (v : Value) (w : World) (h : SlI w v s.t) :
    Calls Tryz.prog 16 #[staV s.g s.a s.n v] w fun e w' => e = .returned (.bool s.right) ∧ Below w.heap.size w w' := by
  obtain ⟨g, a, n, t⟩ := s
  obtain ⟨A, c, e, h1, h2, h3, _⟩ := h
  dsimp only at e h1 h3 ⊢
  subst e
  cases q : (decide (1 ≤ g ∧ g ≤ 1099511627776) && decide (0 ≤ a ∧ a ≤ 1099511627776) && decide (1 ≤ n ∧ n ≤ 999999) && decide (t.length ≤ 50)) with
  | false =>
    have : (⟨g, a, n, t⟩ : Sta).right = false := by
      cases q2 : (⟨g, a, n, t⟩ : Sta).right with
      | false => rfl
      | true =>
        have := (Sta.right_iff _).1 q2
        rw [decide_eq_true ⟨this.g0, this.g1⟩, decide_eq_true ⟨this.a0, this.a1⟩, decide_eq_true ⟨this.n0, this.n1⟩, decide_eq_true this.tl] at q
        cases q
    rw [this]
    exact rright_bad A t.length c g a n w q
  | true =>
    simp only [Bool.and_eq_true, decide_eq_true_iff] at q
    obtain ⟨⟨⟨q1, q2⟩, q3⟩, q4⟩ := q
    have : (⟨g, a, n, t⟩ : Sta).right = tabsB n t := by
      unfold Sta.right
      rw [decide_eq_true q1, decide_eq_true q2, decide_eq_true q3]
      rfl
    rw [this]
    by_cases h0 : 0 < t.length
    · obtain ⟨b, o, rfl, hh⟩ := h3 h0
      exact rright_in b o c t.length t rfl q4 g a n w hh (hh.lt h0) q1 q2 q3
    · have : t = [] := List.eq_nil_of_length_eq_zero (by omega)
      subst this
      rw [tabs_nil]
      exact rright_zero A c g a n w q1 q2 q3
end Go.Proofs.YtofkfafdodhmdaaGreatDoor
